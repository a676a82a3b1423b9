"""Points 18, 19, 20 and 3: the machines of frames and of sayings."""

import copy
import functools
import itertools
import random
import unittest

from setsays.built import built, fitting
from setsays.errors import NoFrame, NoSaying, TooGreat
from setsays.machines import parted, reduced, takes
from setsays.rows import fits, holds
from setsays.sayings import is_saying
from setsays.texts import read
from tests.helpers import GREAT, NO_FRAMES, ProgramCase, every_row, made_up_saying

FRAMES = (
    [], ["x"], ["X"], ["x", "X"], ["X", "x"], ["x", "y"], ["X", "Y"], ["y12", "A"], ["x", "y", "z"], ["X", "Y", "Z"],
    ["x", "X", "y"], ["X", "x", "Y"], ["x", "y", "z", "w"], ["X", "Y", "Z", "W"], ["x", "X", "y", "Y"],
    ["X", "Y", "x", "y"], ["Z", "x", "y", "z"],
)

# In one frame each: sayings that hold for the same rows.
ALIKE = (
    (["x", "X"], ("x in X", "not not x in X", "(x in X and x in X)", "(x in X or x in X)",
                  "some y (y same x and y in X)", "all y (not y same x or y in X)",
                  "some Y (x in Y and Y within X)", "all Y (not X within Y or x in Y)")),
    (["x", "X"], ("not x in X", "some y (x same y and not y in X)", "not some Y (x in Y and Y within X)",
                  "some Y (x in Y and not some y (y in X and y in Y))")),
    (["x", "y"], ("x ahead y", "(not y ahead x and not x same y)", "not (y ahead x or y same x)",
                  "(x next y or some z (x ahead z and z ahead y))", "some z (x next z and (z same y or z ahead y))")),
    (["x", "y"], ("x same y", "y same x", "all X (not x in X or y in X)", "(not x ahead y and not y ahead x)")),
    (["x", "y"], ("x next y", "(x ahead y and not some z (x ahead z and z ahead y))")),
    (["X", "Y"], ("X within Y", "all x (not x in X or x in Y)", "not some x (x in X and not x in Y)",
                  "all Z (not Z within X or Z within Y)")),
    ([], ("some x x same x", "some x some y x same y", "not all x not x same x", "some X some x x in X",
          "not all X all Y X within Y")),
    ([], ("all x not x same x", "not some x x same x", "all X all Y X within Y", "all x x ahead x")),
    ([], ("some x x ahead x", "some x x next x", "some x (x same x and not x same x)", "some X not X within X",
          "all X some x x in X")),
    ([], ("all x x same x", "all X X within X", "some X X within X", "all x some X x in X", "some X all x x in X",
          "all x all y ((x ahead y or y ahead x) or x same y)")),
    (["x"], ("x same x", "all y y same y", "not x ahead x", "some X x in X", "not some X not X within X")),
    (["x"], ("x ahead x", "not x same x", "x next x", "all X x in X")),
)


def fitted(chance, frame, length):
    """A row that fits, if there is one of this length; letters as it chances."""
    row = [chance.randrange(2 ** len(frame)) for letter in range(length)]
    for track, name in enumerate(frame):
        if name[0].islower() and length > 0:
            row = [letter & ~2 ** track for letter in row]
            row[chance.randrange(length)] |= 2 ** track
    return row


def tried_rows(chance, frame, count, longest):
    """Rows to be tried: short ones, all of them; longer ones by chance, most of which fit."""
    yield from every_row(len(frame), 2 if len(frame) > 2 else 4)
    for time in range(count):
        length = chance.choice((3, 4, 5, 6, chance.randrange(longest + 1)))
        if chance.random() < 0.2:
            yield [chance.randrange(2 ** len(frame)) for letter in range(length)]
        else:
            yield fitted(chance, frame, length)


def turned_somewhere(chance, saying):
    """The saying with one of its ands made an or, one of its ors an and, or one of its somes an all."""
    turned = {"and": "or", "or": "and", "some": "all", "all": "some"}
    below = [number for number, thing in enumerate(saying) if isinstance(thing, tuple) and thing[0] in turned]
    if not below or chance.random() < 0.2:
        return (turned[saying[0]],) + saying[1:]
    number = chance.choice(below)
    return saying[:number] + (turned_somewhere(chance, saying[number]),) + saying[number + 1:]


class Great(Exception):
    pass


def by_states(tracks, first, step, end, most):
    """The machine whose rooms are states, reduced; more than so many states are too great."""
    states = {first: 0}
    waiting = [first]
    ways = {}
    while waiting:
        state = waiting.pop()
        ways[state] = [step(state, letter) for letter in range(2 ** tracks)]
        for coming in ways[state]:
            if coming not in states:
                states[coming] = len(states)
                waiting.append(coming)
        if len(states) > most:
            raise Great()
    return reduced((tracks, tuple([tuple([states[coming] for coming in ways[state]]) for state in states]),
                    tuple([bool(end(state)) for state in states])))


def fit_and(frame, broken):
    """The rows that fit, but where by some letter, with the counts and the letter ahead of it, they are broken."""
    tracks = [track for track, name in enumerate(frame) if name[0].islower()]

    def step(state, letter):
        counts, before, is_broken = state
        is_broken = is_broken or broken(counts, before, letter)
        more = [min(2, count + (track in tracks and letter >> track & 1)) for track, count in enumerate(counts)]
        return (tuple(more), letter, is_broken)

    def end(state):
        return not state[2] and all(state[0][track] == 1 for track in tracks)

    return by_states(len(frame), ((0,) * len(frame), 0, False), step, end, 10 ** 6)


@functools.lru_cache(None)
def fitting_by_words(frame):
    return fit_and(frame, lambda counts, before, letter: False)


@functools.lru_cache(None)
def bare_by_words(saying, frame):
    one, other = [frame.index(name) for name in saying[1:]]

    def broken(counts, before, letter):
        has_one, has_other = letter >> one & 1, letter >> other & 1
        if saying[0] == "ahead":
            return has_other and counts[one] == 0
        if saying[0] == "next":
            return has_other and not before >> one & 1
        return has_one and not has_other

    return fit_and(frame, broken)


def pairs_by_words(one, other, end_of):
    def step(pair, letter):
        return (one[1][pair[0]][letter], other[1][pair[1]][letter])

    return by_states(one[0], (0, 0), step, lambda pair: end_of((one[2][pair[0]], other[2][pair[1]])), 100)


def dropped_by_words(machine):
    above = 2 ** (machine[0] - 1)

    def step(rooms, letter):
        return frozenset([machine[1][room][letter + more] for room in rooms for more in (0, above)])

    return by_states(machine[0] - 1, frozenset([0]), step, lambda rooms: any(machine[2][room] for room in rooms), 100)


def by_words(saying, frame):
    """Point 19 word by word, with what is too great."""
    word = saying[0]
    if word in ("and", "or"):
        both = [by_words(inner, frame) for inner in saying[1:]]
        return pairs_by_words(both[0], both[1], all if word == "and" else any)
    if word == "not":
        inner = by_words(saying[1], frame)
        turned = reduced((inner[0], inner[1], tuple([not end for end in inner[2]])))
        return pairs_by_words(turned, fitting_by_words(tuple(frame)), all)
    if word == "some":
        return dropped_by_words(by_words(saying[2], frame + [saying[1]]))
    if word == "all":
        return by_words(("not", ("some", saying[1], ("not", saying[2]))), frame)
    return bare_by_words(saying, tuple(frame))


class BuiltCase(ProgramCase):

    def check_holds(self, saying, frame, rows):
        """The machine takes a row just where the saying holds for it."""
        machine = built(saying, frame)
        self.check_form(machine, len(frame))
        for row in rows:
            if takes(machine, row) is not holds(saying, frame, row):
                self.fail(repr((saying, frame, row)))


class FittingTest(BuiltCase):

    def test_known_ones(self):
        for names in ([], ["X"], ["X", "Y"], ["X", "Y", "Z"], ["X", "Y", "Z", "W"]):
            self.assertEqual(fitting(names), (len(names), ((0,) * 2 ** len(names),), (True,)))
        self.assertEqual(fitting(["x"]), (1, ((0, 1), (1, 2), (2, 2)), (False, True, False)))
        self.assertEqual(fitting(["x", "X"]), (2, ((0, 1, 0, 1), (1, 2, 1, 2), (2,) * 4), (False, True, False)))
        self.assertEqual(fitting(["X", "x"]), (2, ((0, 0, 1, 1), (1, 1, 2, 2), (2,) * 4), (False, True, False)))
        self.assertEqual(fitting(["x", "y"]),
                         (2, ((0, 1, 2, 3), (1, 4, 3, 4), (2, 3, 4, 4), (3, 4, 4, 4), (4,) * 4),
                          (False, False, False, True, False)))

    def test_takes_the_rows_that_fit(self):
        chance = random.Random(18)
        for frame in FRAMES:
            machine = fitting(frame)
            self.check_form(machine, len(frame))
            places = len([name for name in frame if name[0].islower()])
            self.assertEqual(len(machine[1]), 2 ** places + 1 if places else 1)
            for row in tried_rows(chance, frame, 150, 300):
                self.assertIs(takes(machine, row), fits(frame, row))

    def test_what_is_no_frame(self):
        for thing in NO_FRAMES:
            self.check_refused(NoFrame, fitting, thing)


class BareTest(BuiltCase):

    def test_known_ones(self):
        for saying, frame, machine in (
            (("in", "x", "X"), ["x", "X"], (2, ((0, 1, 0, 2), (1,) * 4, (2, 1, 2, 1)), (False, False, True))),
            (("in", "x", "X"), ["X", "x"], (2, ((0, 0, 1, 2), (1,) * 4, (2, 2, 1, 1)), (False, False, True))),
            (("same", "x", "y"), ["x", "y"], (2, ((0, 1, 1, 2), (1,) * 4, (2, 1, 1, 1)), (False, False, True))),
            (("same", "x", "x"), ["x"], (1, ((0, 1), (1, 2), (2, 2)), (False, True, False))),
            (("within", "X", "Y"), ["X", "Y"], (2, ((0, 1, 0, 0), (1,) * 4), (True, False))),
            (("within", "Y", "X"), ["X", "Y"], (2, ((0, 0, 1, 0), (1,) * 4), (True, False))),
            (("within", "X", "X"), ["X"], (1, ((0, 0),), (True,))),
            (("ahead", "x", "y"), ["x", "y"],
             (2, ((0, 1, 2, 2), (1, 2, 3, 2), (2,) * 4, (3, 2, 2, 2)), (False, False, False, True))),
            (("ahead", "y", "x"), ["x", "y"],
             (2, ((0, 1, 2, 1), (1,) * 4, (2, 3, 1, 1), (3, 1, 1, 1)), (False, False, False, True))),
            (("next", "x", "y"), ["x", "y"],
             (2, ((0, 1, 2, 2), (2, 2, 3, 2), (2,) * 4, (3, 2, 2, 2)), (False, False, False, True))),
            (("ahead", "x", "x"), ["x"], (1, ((0, 0),), (False,))),
            (("next", "x", "x"), ["x"], (1, ((0, 0),), (False,))),
        ):
            with self.subTest(saying=saying, frame=frame):
                self.assertEqual(built(saying, frame), machine)

    def test_each_word_of_each_two_names_of_each_frame(self):
        chance = random.Random(190)
        for frame in FRAMES:
            rows = list(tried_rows(chance, frame, 60, 60))
            for one, other in itertools.product(frame, repeat=2):
                for word in ("in", "same", "within", "ahead", "next"):
                    saying = (word, one, other)
                    if is_saying(saying, frame):
                        self.check_holds(saying, frame, rows)
                        self.assertEqual(built(saying, frame), bare_by_words(saying, tuple(frame)))

    def test_names_that_it_does_not_speak_of_count_for_what_fits(self):
        machine = built(("within", "X", "X"), ["X", "x"])
        self.assertEqual(machine, fitting(["X", "x"]))
        machine = built(("same", "x", "y"), ["x", "y", "z"])
        self.assertIs(takes(machine, [3, 4]), True)
        self.assertIs(takes(machine, [3]), False)
        self.assertIs(takes(machine, [7, 4]), False)


class BuiltTest(BuiltCase):

    def test_not_keeps_to_rows_that_fit(self):
        machine = built(("not", ("in", "x", "X")), ["x", "X"])
        self.assertEqual(machine, (2, ((0, 1, 0, 2), (1, 2, 1, 2), (2,) * 4), (False, True, False)))
        for row in ([], [0], [2], [3, 1], [1, 1]):
            self.assertIs(takes(machine, row), False)

    def test_the_row_without_letters(self):
        for text, truth in (("some x x same x", False), ("all x x ahead x", True), ("some X X within X", True),
                            ("all X X within X", True), ("not some x x same x", True), ("not all x x same x", False),
                            ("all X some x x in X", False), ("some X all x x in X", True)):
            self.assertIs(takes(built(read(text), []), []), truth, text)

    def test_known_ones(self):
        # No place behind another; an even number of places, by a set of every other one that has the first alone
        # of both ends.
        self.assertEqual(built(read("not some x some y x ahead y"), []),
                         (0, ((1,), (2,), (2,)), (True, True, False)))
        even = ("some X ((all x all y (not x next y or ((x in X and not y in X) or (y in X and not x in X))) and "
                "all x (some y y next x or x in X)) and all x (some y x next y or not x in X))")
        self.assertEqual(built(read(even), []), (0, ((1,), (0,)), (True, False)))
        self.assertEqual(built(read("some x x in X"), ["X"]), (1, ((0, 1), (1, 1)), (False, True)))
        self.assertEqual(built(read("all x x in X"), ["X"]), (1, ((1, 0), (1, 1)), (True, False)))

    def test_texts(self):
        chance = random.Random(191)
        for frame, texts in ALIKE:
            rows = list(tried_rows(chance, frame, 60, 12))
            for text in texts:
                self.check_holds(read(text), frame, rows)

    def test_long_rows(self):
        chance = random.Random(192)
        for frame, text in ((["x", "X"], "all y (y ahead x or y in X)"),
                            (["X"], "all x (x in X or not some y x next y)"),
                            (["X"], "some Y (X within Y and all x all y (not x next y or (x in Y or y in Y)))"),
                            (["x", "y"], "some X (x in X and not y in X)"),
                            (["x", "X"], "some y (y next x and not y in X)")):
            saying = read(text)
            machine = built(saying, frame)
            for length in (100, 299, 300):
                for row in (fitted(chance, frame, length), [2 ** len(frame) - 1] * length, [0] * length):
                    self.assertIs(takes(machine, row), holds(saying, frame, row))
        # However long: of rows longer than any that holds is promised for, too.
        self.assertIs(takes(built(read("x ahead y"), ["x", "y"]), [1] + [0] * 5000 + [2]), True)
        self.assertIs(takes(built(read("x ahead y"), ["x", "y"]), [2] + [0] * 5000 + [1]), False)

    def test_made_up_sayings(self):
        chance = random.Random(193)
        told = 0
        for time in range(500):
            frame = list(chance.choice(FRAMES[:12]))
            saying = made_up_saying(chance, frame, chance.randrange(2, 8))
            if not is_saying(saying, frame):
                continue
            told += 1
            rows = [fitted(chance, frame, chance.randrange(7)) for row in range(8)]
            rows += [[chance.randrange(2 ** len(frame)) for letter in range(3)]]
            self.check_holds(saying, frame, rows)
        self.assertGreater(told, 300)

    def test_made_up_sayings_word_by_word(self):
        chance = random.Random(194)
        for time in range(150):
            frame = list(chance.choice(FRAMES))
            saying = made_up_saying(chance, frame, chance.randrange(2, 7))
            if is_saying(saying, frame):
                self.assertEqual(built(saying, frame), by_words(saying, frame), saying)


class EqualTest(BuiltCase):

    def test_sayings_that_hold_for_the_same_rows(self):
        for frame, texts in ALIKE:
            machines = [built(read(text), frame) for text in texts]
            for text, machine in zip(texts, machines):
                self.assertEqual(machine, machines[0], text)

    def test_sayings_that_do_not(self):
        for number, (frame, texts) in enumerate(ALIKE):
            for other_frame, other_texts in ALIKE[number + 1:]:
                if frame == other_frame:
                    self.assertNotEqual(built(read(texts[0]), frame), built(read(other_texts[0]), frame))

    def test_made_up_ones_with_the_row_that_parts_them(self):
        chance = random.Random(195)
        equal = 0
        for frame in ([], ["X"], ["x", "X"], ["x", "y"]):
            sayings = [made_up_saying(chance, frame, 4) for time in range(14)]
            for one, other in itertools.combinations(sayings, 2):
                machines = [built(one, frame), built(other, frame)]
                row = parted(machines[0], machines[1])
                self.assertIs(machines[0] == machines[1], row is None)
                if row is None:
                    equal += 1
                    for row in tried_rows(chance, frame, 4, 6):
                        self.assertIs(holds(one, frame, row), holds(other, frame, row))
                else:
                    self.assertIsNot(holds(one, frame, row), holds(other, frame, row))
        self.assertGreater(equal, 20)


class TooGreatTest(BuiltCase):

    def test_known_ones(self):
        for frame, text in GREAT:
            saying = read(text)
            self.assertTrue(is_saying(saying, frame))
            with self.assertRaises(Great):
                by_words(saying, frame)
            self.check_refused(TooGreat, built, saying, frame)

    def test_inside_another_saying(self):
        # Refused though what it stands in would hold for all rows, or for none.
        frame, text = GREAT[0]
        for outer in ("not {}", "({} or X within X)", "(X within X or {})", "(not X within X and {})", "not not {}",
                      "({} and not X within X)"):
            saying = read(outer.format(text))
            self.assertTrue(is_saying(saying, frame))
            self.check_refused(TooGreat, built, saying, frame)

    def test_parts_of_it_are_not(self):
        for frame, text in GREAT:
            saying = read(text)
            for inner in saying[2:] if saying[0] == "some" else saying[1:]:
                names = frame + ["Y"] if saying[0] == "some" else frame
                self.assertEqual(built(inner, names), by_words(inner, names))

    def test_others_that_are_a_little_unlike(self):
        chance = random.Random(196)
        counts = {True: 0, False: 0}
        for frame, text in GREAT:
            for time in range(12):
                saying = turned_somewhere(chance, read(text))
                self.assertTrue(is_saying(saying, frame))
                try:
                    wanted = by_words(saying, frame)
                except Great:
                    counts[True] += 1
                    self.check_refused(TooGreat, built, saying, frame)
                else:
                    counts[False] += 1
                    self.assertEqual(built(saying, frame), wanted)
        self.assertGreater(min(counts.values()), 5, counts)


class RefusedTest(BuiltCase):

    def test_what_is_no_frame(self):
        for frame in NO_FRAMES:
            self.check_refused(NoFrame, built, ("in", "x", "X"), frame)

    def test_a_saying_that_is_not_let(self):
        for saying in (None, True, 0, "", "x in X", [], ["in", "x", "X"], (), {}, ("in", "x"), ("in", "X", "x"),
                       ("in", "y", "X"), ("same", "x", "y"), ("is", "x", "X"), ("left", "x", "x"), ("right", "x", "x"),
                       ("above", "x", "x"), ("some", "x", ("in", "x", "X")), ("all", "X", ("in", "x", "X")),
                       ("not", ("not", ("above", "x", "x"))), ("some", "y", ("some", "y", ("in", "x", "X"))),
                       ("some", "a", ("some", "b", ("some", "c", ("in", "x", "X")))), ({},), ([],), object(),
                       ("not",), ("and", ("in", "x", "X")), ("in", "x", "X", "x"), ("some", "y", ("in", "z", "X")),
                       ("and", ("in", "x", "X"), ["in", "x", "X"]), ("not", None)):
            self.check_refused(NoSaying, built, saying, ["x", "X"])

    def test_too_deep_and_too_many_parts(self):
        deep = ("in", "x", "X")
        for step in range(11):
            deep = ("not", deep)
        self.assertEqual(built(deep, ["x", "X"]), built(("not", ("in", "x", "X")), ["x", "X"]))
        self.check_refused(NoSaying, built, ("not", deep), ["x", "X"])
        # All of all of not: what it is made of is deeper than twelve, yet it is let.
        deep = ("all", "y", ("all", "Y", deep[1][1]))
        self.assertEqual(len(built(deep, ["x", "X"])[1]), 3)
        wide = ("in", "x", "X")
        for step in range(4):
            wide = ("and", wide, wide)
        self.assertEqual(built(("and", wide, ("or", wide[1], wide[1][1][1])), ["x", "X"]),
                         built(("in", "x", "X"), ["x", "X"]))
        self.check_refused(NoSaying, built, ("and", wide, wide), ["x", "X"])

    def test_both_at_once(self):
        for frame in NO_FRAMES:
            for saying in (None, ("in", "y", "X"), "x in X", ["in", "x", "X"], ("left", "x", "x"), 7):
                self.check_refused(NoFrame, built, saying, frame)

    def test_no_saying_goes_ahead_of_too_great(self):
        frame, text = GREAT[0]
        self.check_refused(NoSaying, built, ("and", read(text), ("left", "x", "x")), frame)
        self.check_refused(NoSaying, built, ("and", read(text), ("in", "x", "X")), frame)
        self.check_refused(NoFrame, built, read(text), frame * 2)


class UnchangedTest(BuiltCase):

    def test_saying_and_frame_stay_as_they_were(self):
        for text, frame in (("some y (y in X and y next x)", ["x", "X"]), ("x in X", ["x", "X"]),
                            ("all Y (X within Y or some x (x in X and not x in Y))", ["X"])):
            saying = read(text)
            before = copy.deepcopy((saying, frame))
            first = built(saying, frame)
            self.assertEqual(fitting(frame), fitting(frame))
            self.assertEqual((saying, frame), before)
            self.assertEqual(built(saying, frame), first)

    def test_what_is_refused_stays_as_it_was(self):
        for error, saying, frame in ((NoFrame, ["in", "x"], ["x", "x"]), (NoSaying, ["in", "x"], ["x"]),
                                     (TooGreat, read(GREAT[0][1]), ["X"])):
            before = copy.deepcopy((saying, frame))
            self.check_refused(error, built, saying, frame)
            self.assertEqual((saying, frame), before)

    def test_earlier_questions_leave_no_trace(self):
        saying = ("in", "x", "X")
        first = built(saying, ["x", "X"])
        self.check_refused(TooGreat, built, read(GREAT[0][1]), ["X"])
        built(saying, ["X", "x"])
        self.assertEqual(built(saying, ["x", "X"]), first)


if __name__ == "__main__":
    unittest.main()
