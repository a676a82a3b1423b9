"""Point 7: sayings shown as texts, and read again."""

import itertools
import unittest

from setsays.errors import NoText
from setsays.texts import read, shown

S = ("in", "x", "X")
T = ("same", "x", "y")
W = ("within", "X", "Y")
EACH_FORM = (
    (("in", "x", "X"), "x in X"),
    (("same", "x", "y"), "x same y"),
    (("within", "X", "Y"), "X within Y"),
    (("ahead", "x", "y"), "x ahead y"),
    (("next", "x", "y"), "x next y"),
    (("left", "x", "y"), "x left y"),
    (("right", "x", "y"), "x right y"),
    (("above", "x", "y"), "x above y"),
    (("not", S), "not x in X"),
    (("and", S, T), "(x in X and x same y)"),
    (("or", S, T), "(x in X or x same y)"),
    (("some", "x", S), "some x x in X"),
    (("all", "x", S), "all x x in X"),
)
WITHIN_ONE_ANOTHER = (
    (("same", "x", "x"), "x same x"),
    (("within", "X12", "X12"), "X12 within X12"),
    (("in", "x1", "Z999"), "x1 in Z999"),
    (("above", "a0", "z00"), "a0 above z00"),
    (("some", "X", S), "some X x in X"),
    (("all", "Y7", T), "all Y7 x same y"),
    (("not", ("not", S)), "not not x in X"),
    (("not", ("and", S, T)), "not (x in X and x same y)"),
    (("and", ("not", S), T), "(not x in X and x same y)"),
    (("and", S, ("not", T)), "(x in X and not x same y)"),
    (("or", ("and", S, T), W), "((x in X and x same y) or X within Y)"),
    (("or", S, ("and", T, W)), "(x in X or (x same y and X within Y))"),
    (("and", ("or", S, T), ("or", T, W)), "((x in X or x same y) and (x same y or X within Y))"),
    (("and", ("some", "y", T), ("all", "X", S)), "(some y x same y and all X x in X)"),
    (("some", "x", ("not", ("all", "X", ("or", S, S)))), "some x not all X (x in X or x in X)"),
    (("not", ("some", "x", ("and", S, ("not", ("some", "y", ("next", "x", "y")))))),
     "not some x (x in X and not some y x next y)"),
    (("all", "x", ("or", S, ("not", ("some", "y", ("next", "x", "y"))))), "all x (x in X or not some y x next y)"),
)
# Words as they may come beside one another; not is left out, since it may stand ahead of any saying.
MORE_WORDS = ("x", "X", "y1", "in", "same", "within", "next", "left", "and", "or", "some", "all", "(", ")")


def nots(count, saying):
    for step in range(count):
        saying = ("not", saying)
    return saying


def told_eleven_times(word):
    saying = S
    for step in range(11):
        saying = (word, "z", saying)
    return saying


def spread(bare_count, word="and"):
    """A saying of so many bare ones, as shallow as may be: 2 * bare_count - 1 parts."""
    if bare_count == 1:
        return S
    half = bare_count // 2
    return (word, spread(half, word), spread(bare_count - half, word))


def words_of(text):
    return text.replace("(", "( ").replace(")", " )").split(" ")


def of_tuples_and_texts(thing):
    if thing.__class__ is tuple:
        return all(of_tuples_and_texts(part) for part in thing)
    return thing.__class__ is str


class TextsCase(unittest.TestCase):

    def check_read(self, text, saying):
        with self.subTest(text[:200]):
            found = read(text)
            self.assertEqual(found, saying)
            self.assertTrue(of_tuples_and_texts(found))

    def check_refused(self, thing):
        with self.subTest(repr(thing)[:200]):
            with self.assertRaises(ValueError) as caught:
                read(thing)
            self.assertIs(caught.exception.__class__, NoText)


class ShownTest(TextsCase):

    def test_each_of_the_thirteen_forms(self):
        self.assertEqual(len({saying[0] for saying, text in EACH_FORM}), 13)
        for saying, text in EACH_FORM:
            with self.subTest(text):
                self.assertEqual(shown(saying), text)

    def test_several_parts_within_one_another(self):
        for saying, text in WITHIN_ONE_ANOTHER:
            with self.subTest(text):
                self.assertEqual(shown(saying), text)

    def test_great_ones(self):
        self.assertEqual(shown(nots(11, S)), "not " * 11 + "x in X")
        for word in ("and", "or"):
            text = shown(spread(30, word))
            self.assertEqual(text.count("x in X"), 30)
            self.assertEqual(text.count(" " + word + " "), 29)
            self.assertEqual((text.count("("), text.count(")")), (29, 29))

    def test_the_saying_stays_as_it_was_and_the_answer_too(self):
        for saying, text in EACH_FORM + WITHIN_ONE_ANOTHER:
            self.assertEqual([shown(saying), shown(saying)], [text, text])
        self.assertEqual(S, ("in", "x", "X"))


class ReadTest(TextsCase):

    def test_what_was_shown_is_the_very_saying(self):
        for saying, text in EACH_FORM + WITHIN_ONE_ANOTHER:
            self.check_read(shown(saying), saying)
            self.check_read(text, saying)

    def test_sayings_made_of_each_form_in_each(self):
        ones = [saying for saying, text in EACH_FORM]
        for one, other in itertools.product(ones, repeat=2):
            for saying in (("and", one, other), ("or", ("not", one), ("some", "z", other)), ("all", "Z", one)):
                self.check_read(shown(saying), saying)

    def test_the_two_examples(self):
        self.check_refused("all x (x in X or not some y next x y)")
        self.check_read("all x (x in X or not some y x next y)",
                        ("all", "x", ("or", S, ("not", ("some", "y", ("next", "x", "y"))))))

    def test_in_whatever_blanks(self):
        for saying, text in EACH_FORM + WITHIN_ONE_ANOTHER:
            words = words_of(text)
            for gap in (" ", "  ", "       "):
                for ends in ("", " ", "    "):
                    self.check_read(ends + gap.join(words) + ends, saying)
                    self.check_read(ends + gap.join(words), saying)
                    self.check_read(gap.join(words) + ends, saying)

    def test_no_blank_beside_a_bracket_on_either_side(self):
        pair = ("and", S, T)
        self.check_read("not(x in X and x same y)", ("not", pair))
        self.check_read("some z(x in X and x same y)", ("some", "z", pair))
        self.check_read("all Z( x in X and x same y )", ("all", "Z", pair))
        self.check_read("((x in X and x same y)and(x in X and x same y))", ("and", pair, pair))
        self.check_read("(x in X or(x in X and x same y))", ("or", S, pair))
        self.check_read("((x in X and x same y)or x in X)", ("or", pair, S))
        self.check_read("(not(x in X and x same y)or some z(x in X and x same y))",
                        ("or", ("not", pair), ("some", "z", pair)))

    def test_names_of_all_lengths(self):
        for figures in ("", "0", "9", "00", "12", "000", "007", "999"):
            self.check_read("a" + figures + " in Z" + figures, ("in", "a" + figures, "Z" + figures))
            for name in ("m" + figures, "M" + figures):
                self.check_read("some " + name + " x in X", ("some", name, S))

    def test_names_need_not_be_told_nor_unlike(self):
        self.check_read("some x some x x in X", ("some", "x", ("some", "x", S)))
        self.check_read("(x left y and x ahead y)", ("and", ("left", "x", "y"), ("ahead", "x", "y")))
        five = ("some", "a", ("some", "b", ("some", "c", ("some", "d", ("some", "e", S)))))
        self.check_read(shown(five), five)

    def test_twelve_deep_is_read(self):
        for count in range(12):
            self.check_read(shown(nots(count, S)), nots(count, S))
        for word in ("and", "or"):
            for saying in ((word, nots(10, S), S), (word, S, nots(10, S))):
                self.check_read(shown(saying), saying)
        for word in ("some", "all"):
            self.check_read(shown((word, "z", nots(10, S))), (word, "z", nots(10, S)))
            self.check_read(" ".join([word + " z"] * 11) + " x in X", told_eleven_times(word))

    def test_thirteen_deep_is_refused(self):
        for count in (12, 13, 30, 1600):
            self.check_refused("not " * count + "x in X")
            self.check_refused("some z " * count + "x in X")
            self.check_refused("all Z " * count + "x in X")
            self.check_refused("(" * count + "x in X" + " and x in X)" * count)
            self.check_refused("(x in X or " * count + "x in X" + ")" * count)
        for word in ("and", "or"):
            self.check_refused(shown((word, nots(11, S), S)))
            self.check_refused(shown((word, S, nots(11, S))))
        self.check_refused(shown(("some", "z", nots(11, S))))

    def test_sixty_parts_are_read_and_sixty_one_are_not(self):
        for word in ("and", "or"):
            for saying in (spread(30, word), ("not", spread(30, word)), ("some", "z", spread(30, word))):
                self.check_read(shown(saying), saying)
            for saying in (spread(31, word), ("not", ("not", spread(30, word))), ("all", "Z", ("not", spread(30)))):
                self.check_refused(shown(saying))
            self.check_refused(shown(spread(200, word)))


class RefusedTest(TextsCase):

    def without_not(self):
        both = EACH_FORM + WITHIN_ONE_ANOTHER
        return [words_of(text) for saying, text in both if "not" not in words_of(text)]

    def test_a_word_too_few(self):
        for words in self.without_not():
            for at in range(len(words)):
                self.check_refused(" ".join(words[:at] + words[at + 1:]))
            for length in range(len(words)):
                self.check_refused(" ".join(words[:length]))
        for text in ("not", "not not", "some", "some x", "all X", "not some x", "(", ")", "()", "x", "X", "in", "x in"):
            self.check_refused(text)

    def test_a_word_too_many(self):
        for words in self.without_not():
            for at in range(len(words) + 1):
                for word in MORE_WORDS:
                    self.check_refused(" ".join(words[:at] + [word] + words[at:]))
        for text in ("x not in X", "x in not X", "x in X not", "(x in X not and x same y)", "some not x x in X",
                     "(x in X and x same y not)", "x in X x in X", "x in X and x same y", "x in X or x same y"):
            self.check_refused(text)

    def test_a_bracket_too_few_or_too_many_at_any_place(self):
        for saying, text in EACH_FORM + WITHIN_ONE_ANOTHER:
            words = words_of(text)
            for at in range(len(words) + 1):
                for bracket in "()":
                    self.check_refused(" ".join(words[:at] + [bracket] + words[at:]))
                    self.check_refused("".join([text[:at], bracket, text[at:]]))
                if at < len(words) and words[at] in "()":
                    self.check_refused(" ".join(words[:at] + words[at + 1:]))

    def test_brackets_round_what_is_no_pair(self):
        for text in ("(x in X)", "( x in X )", "(not x in X)", "not (x in X)", "(some x x in X)", "some x (x in X)",
                     "((x in X and x same y))", "((x in X) and x same y)", "(x in X and (x same y))", "(x) in (X)",
                     ")x in X(", "(x in X and x same y and X within Y)", "(x in X or x same y or X within Y)",
                     "[x in X and x same y]", "{x in X and x same y}"):
            self.check_refused(text)

    def test_another_word(self):
        for word in ("is", "In", "IN", "i", "n", "inn", "xin", "behind", "below", "above1", "not", "and", "or", "some",
                     "all", "x", "X", "(", "=", "<", ",", "."):
            self.check_refused("x " + word + " X")
            self.check_refused("x " + word + " y")
            self.check_refused("X " + word + " Y")
        for word in ("AND", "&", "nor", "in", "same", "not", "some", "x", ",", ""):
            self.check_refused("(x in X " + word + " x same y)")
        for word in ("Not", "NOT", "no", "every", "Some", "SOME", "ALL", "exists", "and", "or", "in"):
            self.check_refused(word + " x in X")
            self.check_refused(word + " x x in X")

    def test_a_name_that_is_none_or_of_the_other_sort(self):
        for text in ("X in x", "x in x", "X in X", "x in y", "x same X", "X same x", "X same Y", "x within X",
                     "X within x", "x within y", "x ahead X", "X ahead Y", "X next x", "X left Y", "x right Y",
                     "X above y"):
            self.check_refused(text)
            self.check_refused("not " + text)
            self.check_refused("(x in X and " + text + ")")
            self.check_refused("some z " + text)
        for name in ("x1234", "X1234", "x0000", "xy", "XY", "xX", "1x", "1", "12", "x_", "x-1", "x1y", "x.", "'x'",
                     "in", "not", "(", ")"):
            self.check_refused(name + " same y")
            self.check_refused("y same " + name)
            self.check_refused("x in " + name)
            self.check_refused(name + " within X")
            self.check_refused("some " + name + " x in X")
            self.check_refused("all " + name + " x in X")

    def test_words_in_another_order(self):
        for text in ("x in X", "not x in X", "some x x in X", "(x in X and X within X)"):
            words = words_of(text)
            for order in set(itertools.permutations(words)):
                # The pair turned round is the one other order of these words that is a saying.
                if order != tuple(words) and order != tuple(words_of("(X within X and x in X)")):
                    self.check_refused(" ".join(order))
        for text in ("in x X", "same x y", "and x in X x same y", "(and x in X x same y)", "x some x in X",
                     "x in X not", "x x in X some", "some x in X x", "all (x) x in X"):
            self.check_refused(text)

    def test_words_run_together_or_broken(self):
        for text in ("xin X", "x inX", "xinX", "notx in X", "not xin X", "somex x in X", "some xx in X", "allx x in X",
                     "(x in Xand x same y)", "(x in X andx same y)", "n ot x in X", "x i n X", "so me x x in X",
                     "x 1 in X", "x in X 1"):
            self.check_refused(text)

    def test_nothing_but_blanks(self):
        for text in ("", " ", "  ", " " * 5000):
            self.check_refused(text)

    def test_other_signs_are_no_blanks(self):
        for sign in "\t\n\r\f\v\u00a0\u2003\u2028,;_":
            self.check_refused("x" + sign + "in X")
            self.check_refused("x in" + sign + "X")
            self.check_refused(sign + "x in X")
            self.check_refused("x in X" + sign)
            self.check_refused("not" + sign + "x in X")

    def test_what_is_no_text(self):
        ring = []
        ring.append(ring)
        for thing in (None, True, False, 0, 1, -1, 12, 10 ** 40, 1.5, b"x in X", [], (), {}, ["x in X"], ("x in X",),
                      S, list(S), ["x", "in", "X"], ("not", S), {"x in X": S}, {"x"}, object(), str, ring, iter("x")):
            self.check_refused(thing)

    def test_long_texts(self):
        for text in ("x" * 5000, "(" * 5000, ")" * 5000, "not " * 1250, "some x " * 700, "x " * 2500, "()" * 2500,
                     "(x in X and " * 400, "x in X " * 700):
            self.check_refused(text)


class SameAnswerTest(TextsCase):

    def test_earlier_questions_leave_no_trace(self):
        for time in range(3):
            self.check_refused("x in")
            self.check_read("x in X", S)
            self.check_refused("(x in X and x same y")
            self.check_read("(x in X and x same y)", ("and", S, T))

    def test_what_is_no_text_stays_as_it_was(self):
        words = ["x", "in", "X"]
        self.check_refused(words)
        self.assertEqual(words, ["x", "in", "X"])


if __name__ == "__main__":
    unittest.main()
