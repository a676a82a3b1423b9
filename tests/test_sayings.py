"""Points 5 and 6: the forms of sayings, and in which frames they are let."""

import copy
import itertools
import unittest

from setsays.sayings import is_saying, is_tree_saying

BARE = {
    "in": ("x", "X"),
    "same": ("x", "y"),
    "within": ("X", "Y"),
    "ahead": ("x", "y"),
    "next": ("x", "y"),
    "left": ("x", "y"),
    "right": ("x", "y"),
    "above": ("x", "y"),
}
ROW_ONLY = ("ahead", "next")
TREE_ONLY = ("left", "right", "above")
S = ("in", "x", "X")
T = ("same", "x", "x")


def no_names():
    """Things that are neither names nor sayings nor first words."""
    ring = []
    ring.append(ring)
    return [
        None, True, False, 0, 1, -7, 10 ** 40, 1.5, b"x", "", " ", "x ", " x", "xy", "x1234", "1", "x\n", "\u00e9",
        "x\u0661", (), [], {}, set(), frozenset(), ["x"], ["X"], list(S), {"x": "X"}, {0: "in", 1: "x", 2: "X"},
        ("x",), ("X",), ("x", "X"), (None,), (ring,), ring, object(), str, len, range(3), iter(S), (S,), ((), ()),
    ]


def nots(count, saying):
    for step in range(count):
        saying = ("not", saying)
    return saying


def chained(word, count, saying, side):
    for step in range(count):
        saying = (word, saying, S) if side == 0 else (word, S, saying)
    return saying


def spread(bare_count, word="and"):
    """A saying of so many bare ones, as shallow as may be: 2 * bare_count - 1 parts."""
    if bare_count == 1:
        return S
    half = bare_count // 2
    return (word, spread(half, word), spread(bare_count - half, word))


class SayingsCase(unittest.TestCase):

    def check(self, thing, frame, row, tree):
        with self.subTest(thing=repr(thing)[:200], frame=frame):
            self.assertIs(is_saying(thing, frame), row)
            self.assertIs(is_tree_saying(thing, frame), tree)

    def check_none(self, thing, frame):
        self.check(thing, frame, False, False)


class FormsTest(SayingsCase):

    def test_each_bare_form(self):
        for word, names in BARE.items():
            frame = list(names)
            self.check((word,) + names, frame, word not in TREE_ONLY, word not in ROW_ONLY)

    def test_each_bare_form_with_right_and_wrong_sorts(self):
        frame = ["x1", "y", "X1"]
        sorts = {"in": (True, False), "within": (False, False)}
        for word in BARE:
            for names in itertools.product(frame, repeat=2):
                right = tuple(name[0].islower() for name in names) == sorts.get(word, (True, True))
                self.check((word,) + names, frame, right and word not in TREE_ONLY, right and word not in ROW_ONLY)

    def test_one_name_twice(self):
        for word in BARE:
            name = "X" if word == "within" else "x"
            right = word != "in"
            self.check((word, name, name), [name], right and word not in TREE_ONLY, right and word not in ROW_ONLY)

    def test_each_made_form(self):
        self.check(("not", S), ["x", "X"], True, True)
        for word in ("and", "or"):
            self.check((word, S, T), ["x", "X"], True, True)
            self.check((word, S, S), ["x", "X"], True, True)
            self.check((word, ("not", S), (word, T, S)), ["x", "X"], True, True)
        for word in ("some", "all"):
            self.check((word, "x", S), ["X"], True, True)
            self.check((word, "X", S), ["x"], True, True)
            self.check((word, "x123", S), ["x", "X"], True, True)

    def every_form(self):
        forms = [(word,) + names for word, names in BARE.items()]
        forms.extend([("not", S), ("and", S, T), ("or", S, T), ("some", "z", S), ("all", "z", S)])
        forms.extend([("some", "Z", S), ("all", "Z", S)])
        return [(form, ["x", "X"] if S in form else list(form[1:])) for form in forms]

    def test_the_thirteen_forms_are_tried_and_let(self):
        self.assertEqual(len(set(form[0] for form, frame in self.every_form())), 13)
        for form, frame in self.every_form():
            self.check(form, frame, form[0] not in TREE_ONLY, form[0] not in ROW_ONLY)

    def test_too_few_things(self):
        for form, frame in self.every_form():
            for length in range(len(form)):
                self.check_none(form[:length], frame)
                self.check_none(form[len(form) - length:], frame)

    def test_too_many_things(self):
        for form, frame in self.every_form():
            for thing in ("x", "X", S, None, "", ()):
                for at in range(len(form) + 1):
                    self.check_none(form[:at] + (thing,) + form[at:], frame)
            self.check_none(form + form, frame)

    def test_a_list_in_the_place_of_a_tuple(self):
        for form, frame in self.every_form():
            self.check_none(list(form), frame)
            self.check_none(("not", list(form)), frame)
            self.check_none(("and", list(form), S), frame)
            self.check_none(("or", S, list(form)), frame)
        for word in ("some", "all"):
            self.check_none((word, "z", list(S)), ["x", "X"])

    def test_another_first_word(self):
        others = ("", " ", "In", "IN", "in ", " in", "in\n", "is", "x", "X", "xor", "nor", "none", "every", "behind",
                  "below", "child", "yes", "true", "(", "inin", "\u0456n")
        for form, frame in self.every_form():
            for word in others:
                self.check_none((word,) + form[1:], frame)

    def test_a_first_word_of_another_form(self):
        self.check_none(("not", "x"), ["x"])
        self.check_none(("in", S), ["x", "X"])
        self.check_none(("in", S, T), ["x", "X"])
        self.check_none(("and", "x", "X"), ["x", "X"])
        self.check_none(("not", "z", S), ["x", "X"])
        self.check_none(("and", "z", S), ["x", "X"])
        self.check_none(("some", S, S), ["x", "X"])
        self.check_none(("some", S, "z"), ["x", "X"])
        self.check_none(("some", "z", "x"), ["x"])
        self.check_none(("all", S), ["x", "X"])

    def test_other_kinds_at_each_place(self):
        for form, frame in self.every_form():
            for thing in no_names():
                for at in range(len(form)):
                    self.check_none(form[:at] + (thing,) + form[at + 1:], frame)

    def test_other_kinds_as_the_whole(self):
        for thing in no_names() + ["x in X", "x", "in"]:
            self.check_none(thing, ["x", "X"])
            self.check_none(thing, [])

    def test_what_is_wrong_deep_within(self):
        for wrong in (("in", "X", "x"), ("in", "x"), ("is", "x", "X"), ["in", "x", "X"], None, "x in X", ()):
            self.check_none(nots(5, wrong), ["x", "X"])
            self.check_none(("and", S, ("or", wrong, S)), ["x", "X"])
            self.check_none(("and", ("or", S, wrong), S), ["x", "X"])
            self.check_none(("some", "y", ("all", "z", ("not", wrong))), ["x"])


class SizeTest(SayingsCase):

    def test_twelve_deep_and_thirteen_deep(self):
        frame = ["x", "X"]
        for bare in (S, T):
            for count in range(12):
                self.check(nots(count, bare), frame, True, True)
            for count in (12, 13, 20, 100):
                self.check_none(nots(count, bare), frame)

    def test_the_deeper_side_counts(self):
        frame = ["x", "X"]
        for word in ("and", "or"):
            for side in (0, 1):
                self.check(chained(word, 11, S, side), frame, True, True)
                self.check_none(chained(word, 12, S, side), frame)
            self.check((word, nots(10, S), S), frame, True, True)
            self.check((word, S, nots(10, S)), frame, True, True)
            self.check_none((word, nots(11, S), S), frame)
            self.check_none((word, S, nots(11, S)), frame)

    def test_some_and_all_make_deeper(self):
        for word in ("some", "all"):
            self.check((word, "x", nots(10, S)), ["X"], True, True)
            self.check_none((word, "x", nots(11, S)), ["X"])
            self.check(nots(9, (word, "x", (word, "X", S))), [], True, True)
            self.check_none(nots(10, (word, "x", (word, "X", S))), [])

    def test_sixty_parts_and_sixty_one(self):
        frame = ["x", "X"]
        for word in ("and", "or"):
            self.check(spread(30, word), frame, True, True)
            self.check(("not", spread(30, word)), frame, True, True)
            self.check_none(spread(31, word), frame)
            self.check_none(("not", ("not", spread(30, word))), frame)
            self.check_none(spread(32, word), frame)
            self.check_none((word, spread(16, word), ("not", spread(15, word))), frame)

    def test_some_and_all_are_parts(self):
        for word in ("some", "all"):
            self.check((word, "x", spread(30)), ["X"], True, True)
            self.check_none((word, "x", ("not", spread(30))), ["X"])
            self.check_none((word, "x", (word, "X", spread(30))), [])

    def test_parts_that_are_the_same_are_counted_each_time(self):
        saying = S
        for step in range(4):
            saying = ("and", saying, saying)
        self.check(saying, ["x", "X"], True, True)
        self.check_none(("and", saying, saying), ["x", "X"])

    def test_sixty_parts_at_twelve_deep(self):
        frame = ["x", "X"]
        deep = chained("and", 8, nots(3, S), 1)
        self.check(("or", deep, spread(19)), frame, False, False)
        deep = chained("and", 7, nots(3, S), 1)
        self.check(("or", deep, ("and", spread(19), nots(2, S))), frame, True, True)
        self.check_none(("or", deep, ("and", spread(19), nots(3, S))), frame)

    def test_very_great_things(self):
        doubled = S
        for step in range(20):
            doubled = ("and", doubled, doubled)
        deep = nots(100000, S)
        wide = ("in",) * 100000
        for thing in (doubled, deep, wide):
            self.assertIs(is_saying(thing, ["x", "X"]), False)
            self.assertIs(is_tree_saying(thing, ["x", "X"]), False)


class LetTest(SayingsCase):

    def test_names_that_stand_in_the_frame(self):
        self.check(S, ["x", "X"], True, True)
        self.check(S, ["X", "x"], True, True)
        self.check(S, ["y", "X", "x"], True, True)
        self.check(S, ["Y", "x", "y", "X"], True, False)

    def test_names_that_neither_stand_in_the_frame_nor_are_told(self):
        for frame in ([], ["x"], ["X"], ["y", "Y"], ["x", "Y"], ["y", "X"], ["x1", "X"], ["x", "X0"]):
            self.check_none(S, frame)
            self.check_none(("not", S), frame)
            self.check_none(("and", ("not", S), S), frame)

    def test_one_unknown_name_at_either_side(self):
        for word, names in BARE.items():
            for name in names:
                self.check_none((word,) + names, [name])

    def test_names_that_are_told_round_it(self):
        for one, other in itertools.product(("some", "all"), repeat=2):
            self.check((one, "x", (other, "X", S)), [], True, True)
            self.check((one, "X", (other, "x", S)), [], True, True)
            self.check((one, "x", ("not", ("or", S, (other, "y", ("in", "y", "X"))))), ["X"], True, True)

    def test_a_name_told_beside_it_is_not_round_it(self):
        for word in ("some", "all"):
            told = (word, "x", S)
            self.check_none(("and", told, S), ["X"])
            self.check_none(("or", S, told), ["X"])
            self.check_none(("and", told, ("not", ("same", "x", "x"))), ["X"])
            self.check_none((word, "y", S), ["X"])
            self.check_none((word, "X", S), ["X"])
            self.check_none((word, "x1", S), ["X"])

    def test_a_name_told_that_stands_in_the_frame(self):
        for word in ("some", "all"):
            self.check_none((word, "x", S), ["x", "X"])
            self.check_none((word, "X", S), ["x", "X"])
            self.check_none((word, "y", T), ["x", "y"])
            self.check_none(("and", T, ("not", (word, "x", T))), ["x"])
            self.check((word, "x1", T), ["x"], True, True)
            self.check((word, "X", T), ["x"], True, True)

    def test_a_name_told_by_another_one_round_it(self):
        for one, other in itertools.product(("some", "all"), repeat=2):
            self.check_none((one, "x", (other, "x", S)), ["X"])
            self.check_none((one, "X", (other, "X", S)), ["x"])
            self.check_none((one, "x", ("not", ("and", S, ("or", (other, "x", S), S)))), ["X"])
            self.check_none((one, "x", (one, "y", (other, "x", T))), [])
            self.check_none((one, "x", (one, "y", (other, "y", T))), [])

    def test_the_same_name_told_twice_where_neither_stands_round_the_other(self):
        for one, other in itertools.product(("some", "all"), repeat=2):
            self.check(("and", (one, "x", S), (other, "x", S)), ["X"], True, True)
            self.check(("or", (one, "X", S), ("not", (other, "X", S))), ["x"], True, True)
            self.check(("some", "X", ("or", (one, "x", S), (other, "x", T))), [], True, True)

    def test_names_together_with_told_ones(self):
        names = ["a", "B", "c", "D", "e"]
        for stand in range(5):
            for told in range(6 - stand):
                saying = ("same", "a", "a") if stand + told else ("some", "z", ("same", "z", "z"))
                most = max(stand + told, 1)
                for name in reversed(names[stand:stand + told]):
                    saying = ("some" if told % 2 else "all", name, saying)
                self.check(saying, names[:stand], most <= 4, most <= 3)

    def test_names_told_apart_are_not_together(self):
        apart = ("and", ("some", "y", T), ("or", ("all", "z", T), ("some", "Z", T)))
        self.check(apart, ["x"], True, True)
        self.check(apart, ["x", "X"], True, True)
        self.check(apart, ["x", "X", "Y"], True, False)
        self.check_none(apart, ["x", "X", "Y", "W"])
        one_deeper = ("and", ("some", "y", T), ("all", "z", ("some", "Z", T)))
        self.check(one_deeper, ["x"], True, True)
        self.check(one_deeper, ["x", "X"], True, False)
        self.check_none(one_deeper, ["x", "X", "Y"])

    def test_a_told_name_counts_where_it_is_not_used(self):
        self.check(("some", "w", T), ["x", "y", "z"], True, False)
        self.check_none(("some", "w", T), ["x", "y", "z", "X"])

    def test_frames_of_four_names(self):
        for saying in (S, ("not", S), ("same", "x", "y"), ("within", "X", "Y")):
            self.check(saying, ["x", "y", "X", "Y"], True, False)
        for word in TREE_ONLY:
            self.check_none((word, "x", "y"), ["x", "y", "X", "Y"])

    def test_words_for_rows_and_words_for_trees(self):
        for word, names in BARE.items():
            bare = (word,) + names
            row = word not in TREE_ONLY
            tree = word not in ROW_ONLY
            frame = list(names)
            for saying in (("not", bare), ("and", bare, bare), ("or", bare, bare), nots(11, bare)):
                self.check(saying, frame, row, tree)
            plain = ("same", "x", "x") if word != "within" else ("within", "X", "X")
            self.check(("and", bare, plain), frame, row, tree)
            self.check(("or", plain, bare), frame, row, tree)
            self.check(("or", plain, ("not", ("and", plain, bare))), frame, row, tree)
            for one, other in itertools.product(("some", "all"), repeat=2):
                self.check((one, names[0], (other, names[1], bare)), [], row, tree)
                self.check((one, names[0], ("not", bare)), [names[1]], row, tree)

    def test_words_of_both_together_are_let_in_neither(self):
        for one in ROW_ONLY:
            for other in TREE_ONLY:
                self.check_none(("or", (one, "x", "y"), (other, "x", "y")), ["x", "y"])

    def test_what_is_no_frame_lets_nothing(self):
        for frame in (["x", "x", "X"], ["x", "X", "Y", "Z", "z"], ["x", "X", None], ("x", "X"), None):
            self.check_none(S, frame)


class UnchangedTest(unittest.TestCase):

    def test_frame_and_saying_stay_as_they_were(self):
        wanted = [
            (("some", "y", ("and", ("in", "y", "X"), ("some", "Z", ("in", "y", "Z")))), ["x", "X"]),
            (("some", "y", ("in", "y", ["X"])), ["x", "X"]),
            (["some", "y", ["in", "y", "X"]], ["X"]),
            ({"in": ["x"]}, ["x"]),
            (("in", "x", "X"), ["x", "X", "y", "Y"]),
        ]
        for ask in (is_saying, is_tree_saying):
            for thing, frame in wanted:
                with self.subTest(thing=thing, frame=frame):
                    thing_before = copy.deepcopy(thing)
                    frame_before = list(frame)
                    first = ask(thing, frame)
                    self.assertEqual(thing, thing_before)
                    self.assertEqual(frame, frame_before)
                    self.assertIs(ask(thing, frame), first)

    def test_earlier_questions_leave_no_trace(self):
        told = ("some", "y", ("in", "y", "X"))
        for time in range(3):
            self.assertIs(is_saying(told, ["X"]), True)
            self.assertIs(is_saying(("in", "y", "X"), ["X"]), False)
            self.assertIs(is_tree_saying(told, ["X"]), True)
            self.assertIs(is_tree_saying(("in", "y", "X"), ["X"]), False)


if __name__ == "__main__":
    unittest.main()
