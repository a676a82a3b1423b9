"""Points 10, 11 and 20: for which rows a saying holds, and what is refused."""

import copy
import itertools
import random
import unittest

from setsays.errors import NoFrame, NoRow, NoSaying
from setsays.rows import fits, holds
from setsays.sayings import is_saying
from setsays.texts import read
from tests.helpers import NO_FRAMES, every_row


def stands_for(name, names, row):
    track = names.index(name)
    places = {place for place, letter in enumerate(row) if letter // 2 ** track % 2 == 1}
    return min(places) if name[0].islower() else places


def bare_by(saying, names, row):
    one = stands_for(saying[1], names, row)
    other = stands_for(saying[2], names, row)
    if saying[0] == "in":
        return one in other
    if saying[0] == "same":
        return one == other
    if saying[0] == "within":
        return one.issubset(other)
    if saying[0] == "ahead":
        return one < other
    return other == one + 1


def chosen(name, count):
    """Every choice of places that a some or all over the name has: for each place a truth."""
    ways = list(itertools.product((False, True), repeat=count))
    return [way for way in ways if sum(way) == 1] if name[0].islower() else ways


def by_every_choice(saying, names, row):
    """Point 10 word by word: each place and each set is tried."""
    word = saying[0]
    if word == "not":
        return not by_every_choice(saying[1], names, row)
    if word == "and":
        return by_every_choice(saying[1], names, row) and by_every_choice(saying[2], names, row)
    if word == "or":
        return by_every_choice(saying[1], names, row) or by_every_choice(saying[2], names, row)
    if word not in ("some", "all"):
        return bare_by(saying, names, row)
    found = []
    for way in chosen(saying[1], len(row)):
        wider = [letter + 2 ** len(names) * has for letter, has in zip(row, way)]
        found.append(by_every_choice(saying[2], names + [saying[1]], wider))
    return any(found) if word == "some" else all(found)


class HoldsCase(unittest.TestCase):

    def check(self, text, frame, row, truth):
        with self.subTest(text=text, frame=frame, row=row):
            self.assertIs(holds(read(text), frame, row), truth)

    def check_both(self, text, frame, row, truth):
        """Of a row that fits: the saying and its not."""
        self.assertTrue(fits(frame, row))
        self.check(text, frame, row, truth)
        self.check("not " + text, frame, row, not truth)

    def check_refused(self, error, saying, frame, row):
        with self.subTest(saying=repr(saying)[:100], frame=repr(frame)[:100], row=repr(row)[:100]):
            with self.assertRaises(ValueError) as caught:
                holds(saying, frame, row)
            self.assertIs(caught.exception.__class__, error)

    def check_every_row(self, saying, frame, most):
        for row in every_row(len(frame), most):
            fit = fits(frame, row)
            wanted = fit and by_every_choice(saying, frame, row)
            if holds(saying, frame, row) is not wanted or holds(("not", saying), frame, row) is not (fit != wanted):
                self.fail(repr((saying, frame, row, wanted)))


class BareTest(HoldsCase):

    def test_in(self):
        for row, truth in (([3], True), ([1], False), ([0, 3, 0], True), ([2, 1, 2], False), ([2, 3, 2], True),
                           ([1, 2], False), ([2, 1], False), ([3, 2], True)):
            self.check_both("x in X", ["x", "X"], row, truth)
        for row, truth in (([3], True), ([2], False), ([1, 2, 1], False), ([1, 3, 1], True)):
            self.check_both("x in X", ["X", "x"], row, truth)

    def test_same(self):
        for row, truth in (([3], True), ([1, 2], False), ([2, 1], False), ([0, 3], True), ([3, 0], True),
                           ([1, 0, 2], False)):
            self.check_both("x same y", ["x", "y"], row, truth)
            self.check_both("y same x", ["x", "y"], row, truth)

    def test_within(self):
        for row, truth in (([], True), ([0], True), ([1], False), ([2], True), ([3], True), ([3, 2, 0], True),
                           ([3, 3, 1], False), ([1, 2], False), ([2, 3, 0, 3, 2], True)):
            self.check_both("X within Y", ["X", "Y"], row, truth)
            self.check_both("Y within X", ["Y", "X"], row, truth)

    def test_ahead(self):
        for row, truth in (([1, 2], True), ([2, 1], False), ([3], False), ([1, 0, 0, 2], True),
                           ([0, 2, 0, 1], False), ([0, 3, 0], False)):
            self.check_both("x ahead y", ["x", "y"], row, truth)
            self.check_both("y ahead x", ["y", "x"], row, truth)

    def test_next(self):
        for row, truth in (([1, 2], True), ([2, 1], False), ([3], False), ([1, 0, 2], False), ([0, 1, 2, 0], True),
                           ([2, 0, 1], False), ([0, 3, 0], False), ([1, 0, 0, 2], False)):
            self.check_both("x next y", ["x", "y"], row, truth)
            self.check_both("y next x", ["y", "x"], row, truth)

    def test_one_name_twice(self):
        for row in ([1], [0, 1], [1, 0], [0, 1, 0]):
            self.check_both("x same x", ["x"], row, True)
            self.check_both("x ahead x", ["x"], row, False)
            self.check_both("x next x", ["x"], row, False)
        for row in ([], [0], [1], [1, 0, 1]):
            self.check_both("X within X", ["X"], row, True)

    def test_other_tracks_mean_nothing(self):
        for others in itertools.product((0, 1), repeat=3):
            row = [letter + 4 * other for letter, other in zip([1, 2, 0], others)]
            self.check_both("x next y", ["x", "y", "Z"], row, True)
            self.check_both("y ahead x", ["x", "y", "Z"], row, False)
            self.check_both("x in Z", ["x", "y", "Z"], row, others[0] == 1)
            self.check_both("y in Z", ["x", "y", "Z"], row, others[1] == 1)

    def test_every_short_row(self):
        for word in ("same", "ahead", "next"):
            for names in itertools.product("xy", repeat=2):
                self.check_every_row((word,) + names, ["x", "y"], 4)
                self.check_every_row((word,) + names, ["y", "X", "x"], 3)
        for names in itertools.product("XY", repeat=2):
            self.check_every_row(("within",) + names, ["X", "Y"], 4)
            self.check_every_row(("within",) + names, ["Y", "x", "X"], 3)
        for frame in (["x", "X"], ["X", "x"], ["Y", "x", "X"]):
            self.check_every_row(("in", "x", "X"), frame, 3)


class PutTogetherTest(HoldsCase):

    def test_not_and_or(self):
        # By the letter of x: whether it has X, whether it has Y.
        for letter, one, other in ((1, False, False), (3, True, False), (5, False, True), (7, True, True)):
            frame = ["x", "X", "Y"]
            self.check("x in X", frame, [letter], one)
            self.check("not x in X", frame, [letter], not one)
            self.check("not not x in X", frame, [letter], one)
            self.check_both("(x in X and x in Y)", frame, [letter], one and other)
            self.check_both("(x in X or x in Y)", frame, [letter], one or other)
            self.check_both("(x in X and not x in Y)", frame, [letter], one and not other)
            self.check_both("(not x in X or x in Y)", frame, [letter], other or not one)
            self.check_both("(x in X and x in X)", frame, [letter], one)
            self.check_both("(x in X or not x in X)", frame, [letter], True)
            self.check_both("(x in X and not x in X)", frame, [letter], False)

    def test_what_is_settled_early_and_late(self):
        self.check_both("(x in X and x ahead y)", ["x", "y", "X"], [0, 5, 0, 2], True)
        self.check_both("(x in X and x ahead y)", ["x", "y", "X"], [2, 0, 5], False)
        self.check_both("(x in X or X within Y)", ["x", "X", "Y"], [1, 6, 2], False)
        self.check_both("(x in X or X within Y)", ["x", "X", "Y"], [3, 6, 2], True)
        self.check_both("(x in X or X within Y)", ["x", "X", "Y"], [1, 6, 4], True)


class SomeAndAllTest(HoldsCase):

    def test_a_row_without_places(self):
        for text, truth in (
            ("some x x same x", False), ("all x x same x", True), ("some x not x same x", False),
            ("all x not x same x", True), ("some X X within X", True), ("all X X within X", True),
            ("some X not X within X", False), ("all X not X within X", False), ("all X all Y X within Y", True),
            ("some X some x x in X", False), ("all X some x x in X", False), ("some X all x not x in X", True),
            ("all x some y x next y", True), ("some x all X x in X", False), ("all x all X not x in X", True),
            ("(some x x same x or all x x ahead x)", True), ("not (some x x same x or some y y same y)", True),
        ):
            self.check_both(text, [], [], truth)

    def test_the_empty_set_is_one_of_them(self):
        for row in ([], [0], [0, 0, 0]):
            self.check_both("some X all x not x in X", [], row, True)
            self.check_both("all X some x x in X", [], row, False)
        self.check_both("all Y X within Y", ["X"], [0, 0], True)
        self.check_both("all Y X within Y", ["X"], [0, 1], False)

    def test_the_set_of_all_is_one_of_them(self):
        for row in ([], [0], [0, 0, 0]):
            self.check_both("some X all x x in X", [], row, True)
        self.check_both("all Y Y within X", ["X"], [1, 1], True)
        self.check_both("all Y Y within X", ["X"], [1, 0], False)

    def test_some_and_all_over_places(self):
        for row in every_row(1, 4):
            self.check_both("some x x in X", ["X"], row, 1 in row)
            self.check_both("all x x in X", ["X"], row, 0 not in row)
            self.check_both("some x not x in X", ["X"], row, 0 in row)
            self.check_both("all x not x in X", ["X"], row, 1 not in row)
            self.check_both("some x some y (x next y and (x in X and y in X))", ["X"], row, (1, 1) in zip(row, row[1:]))
            self.check_both("some x (x in X and all y (x same y or not y in X))", ["X"], row, row.count(1) == 1)
            self.check_both("all x (x in X or some y (x ahead y and y in X))", ["X"], row, row[-1:] != [0])

    def test_the_first_and_the_last_place(self):
        for length in range(1, 5):
            for place in range(length):
                row = [0] * length
                row[place] = 1
                self.check_both("not some y y next x", ["x"], row, place == 0)
                self.check_both("not some y x next y", ["x"], row, place == length - 1)
                self.check_both("all y (x same y or x ahead y)", ["x"], row, place == 0)
                self.check_both("some y some z (y next x and x next z)", ["x"], row, 0 < place < length - 1)

    def test_the_same_name_told_in_both_parts(self):
        text = "(some x x in X and some x not x in X)"
        for row, truth in (([], False), ([0], False), ([1], False), ([0, 1], True), ([1, 1], False), ([1, 0], True)):
            self.check_both(text, ["X"], row, truth)

    def test_an_even_number_of_places(self):
        # X has every second place from the first one on, and not the last one.
        text = ("some X (all x (some y y next x or x in X) and (all x (some y x next y or not x in X)"
                " and all x all y (not x next y or ((x in X or y in X) and not (x in X and y in X)))))")
        for length in list(range(7)) + [299, 300]:
            self.check_both(text, [], [0] * length, length % 2 == 0)

    def test_places_told_apart_by_sets(self):
        for row in every_row(2, 4):
            if fits(["x", "y"], row):
                self.check_both("all X (not x in X or y in X)", ["x", "y"], row, 3 in row)

    def test_sets_that_have_each_next_place_too(self):
        # Each such set with a place has the last place, and one has no other.
        text = ("all X ((not some x x in X or some x (x in X and x in A))"
                " or some x some y (x next y and (x in X and not y in X)))")
        for row in every_row(1, 5):
            self.check_both(text, ["A"], row, row[-1:] != [0])

    def test_sets_of_long_rows(self):
        self.check_both("all X all Y (X within Y or some x (x in X and not x in Y))", [], [0] * 300, True)
        text = "some X ((X within A and some x x in X) and all x (not x in X or not some y (y next x and not y in X)))"
        self.check_both(text, ["A"], [0] + [1] * 299, False)
        self.check_both(text, ["A"], [1] + [0] * 299, True)
        self.check_both("all x all y all z (not (x ahead y and y ahead z) or x ahead z)", [], [0] * 300, True)
        text = "some X some Y some Z some W (X within Y and (Z within W and not W within X))"
        self.check_both(text, [], [0] * 300, True)

    def test_texts_by_every_choice(self):
        for text, frame, most in (
            ("all x some y (x next y or x same y)", [], 5),
            ("some x all y (y in X or (x ahead y and not y next x))", ["X"], 5),
            ("some X all x (x in X or x in Y)", ["Y"], 4),
            ("all X some x (x in X or all y (y same x or y in Y))", ["Y"], 4),
            ("all X (x in X or some y (y ahead x and not y in X))", ["x"], 4),
            ("some x some X (x in X and (X within Y and not Y within X))", ["Y"], 4),
            ("all x all X (not x in X or some Y (X within Y and x in Y))", [], 4),
            ("some X some Y (all x (x in X or x in Y) and not some x (x in X and x in Y))", [], 4),
            ("some X all Y (Y within X or not X within Y)", [], 4),
            ("all X some Y (all x (not x in X or not x in Y) and all x (x in X or x in Y))", [], 3),
            ("some x (x in X and all Y (x in Y or some z (z ahead x and not z in Y)))", ["X"], 4),
            ("some Z ((X within Z and Z within Y) and some w (w in Z and not w in X))", ["X", "Y"], 3),
            ("(x next y or some z (x ahead z and (z ahead y and z in X)))", ["x", "y", "X"], 3),
            ("all Z ((Z within X or not x in Z) or some y (y in Z and y ahead x))", ["x", "X"], 3),
            ("not all w (w in A or (w in B or (w in C and not w in A)))", ["A", "B", "C"], 3),
        ):
            self.check_every_row(read(text), frame, most)

    def test_the_order_of_the_frame_is_that_of_the_tracks(self):
        text = "some Z (X within Z and not x in Z)"
        for frame in itertools.permutations(["x", "X", "y"]):
            self.check_every_row(read(text), list(frame), 3)


class MadeUpTest(HoldsCase):

    def bare(self, chance, names):
        places = [name for name in names if name.islower()]
        sets = [name for name in names if name.isupper()]
        words = ["same", "ahead", "next", "next"] * bool(places) + ["within"] * bool(sets)
        word = chance.choice(words + ["in"] * (6 if places and sets else 0))
        return (word, chance.choice(sets if word == "within" else places),
                chance.choice(sets if word in ("within", "in") else places))

    def made_up(self, chance, names, deep):
        pick = chance.random()
        if not names or (deep > 1 and len(names) < 4 and pick < 0.4):
            name = chance.choice([name for name in "xyzwXYZW" if name not in names])
            return (chance.choice(("some", "all")), name, self.made_up(chance, names + [name], deep - 1))
        if deep > 1 and pick < 0.55:
            return ("not", self.made_up(chance, names, deep - 1))
        if deep > 1 and pick < 0.9:
            return (chance.choice(("and", "or")), self.made_up(chance, names, deep - 1),
                    self.made_up(chance, names, deep - 1))
        return self.bare(chance, names)

    def test_many_made_up_sayings_by_every_choice(self):
        chance = random.Random(20)
        tried = {True: 0, False: 0}
        while min(tried.values()) < 1500:
            frame = chance.sample("xyzwXYZW", chance.randrange(4))
            saying = self.made_up(chance, frame, chance.randrange(1, 7))
            if not is_saying(saying, frame):
                continue
            for length in range(5 - len(frame) // 2):
                row = [chance.randrange(2 ** len(frame)) for place in range(length)]
                for track, name in enumerate(frame):
                    if name.islower() and length > 0:
                        row = [letter & ~2 ** track for letter in row]
                        row[chance.randrange(length)] |= 2 ** track
                if fits(frame, row):
                    wanted = by_every_choice(saying, frame, row)
                    tried[wanted] += 1
                    if holds(saying, frame, row) is not wanted:
                        self.fail(repr((saying, frame, row, wanted)))


class NotFittingTest(HoldsCase):

    def test_neither_a_saying_nor_its_not(self):
        for frame, row in ((["x"], []), (["x"], [0]), (["x"], [1, 1]), (["x"], [0, 1, 0, 1])):
            for text in ("x same x", "x ahead x", "some y y same y", "all X x in X", "all y y same x",
                         "(x same x or not x same x)", "some X some Y X within Y", "all X X within X"):
                self.check(text, frame, row, False)
                self.check("not " + text, frame, row, False)
        for row in ([], [1], [2], [1, 1], [3, 1], [1, 3], [2, 2, 1], [3, 3]):
            for text in ("x same y", "x ahead y", "x next y", "all z z same z"):
                self.check(text, ["x", "y"], row, False)
                self.check("not " + text, ["x", "y"], row, False)
        for row in ([], [2], [2, 0], [3, 3], [1, 3]):
            self.check("x in X", ["x", "X"], row, False)
            self.check("not x in X", ["x", "X"], row, False)

    def test_a_place_that_the_saying_does_not_name(self):
        for row in ([], [0], [3, 3], [1, 1], [2, 1, 1]):
            self.check("X within X", ["x", "X"], row, False)
            self.check("not X within X", ["x", "X"], row, False)
        self.check("X within X", ["x", "X"], [2, 1], True)


class RefusedTest(HoldsCase):

    def test_what_is_no_frame(self):
        for frame in NO_FRAMES:
            self.check_refused(NoFrame, ("in", "x", "X"), frame, [3])

    def test_a_saying_that_is_not_let(self):
        for saying in (None, True, 0, "", "x in X", [], ["in", "x", "X"], (), ("in", "x"), ("in", "X", "x"),
                       ("in", "y", "X"), ("same", "x", "y"), ("is", "x", "X"), ("left", "x", "x"), ("right", "x", "x"),
                       ("above", "x", "x"), ("some", "x", ("in", "x", "X")), ("all", "X", ("in", "x", "X")),
                       ("not", ("not", ("above", "x", "x"))), ("some", "y", ("some", "y", ("in", "x", "X"))),
                       ("some", "a", ("some", "b", ("some", "c", ("in", "x", "X")))), ({},), ([],), object()):
            self.check_refused(NoSaying, saying, ["x", "X"], [3])
        deep = ("in", "x", "X")
        for step in range(11):
            deep = ("not", deep)
        self.assertIs(holds(deep, ["x", "X"], [3]), False)
        self.check_refused(NoSaying, ("not", deep), ["x", "X"], [3])

    def test_a_letter_that_is_none(self):
        for letter in (-1, 4, 5, 8, -10 ** 40, 10 ** 40):
            for row in ([letter], [3, letter], [letter, 3], [0, letter, 3], [1, 1, letter], [0, 0, 3, 0, letter]):
                self.check_refused(NoRow, ("in", "x", "X"), ["x", "X"], row)
                self.check_refused(NoRow, ("not", ("in", "x", "X")), ["x", "X"], row)
        self.check_refused(NoRow, ("some", "x", ("same", "x", "x")), [], [1])
        self.check_refused(NoRow, ("in", "x", "X"), ["x", "X", "y", "Y"], [16])
        # The told name's track is none of the frame's.
        self.check_refused(NoRow, ("some", "y", ("same", "y", "x")), ["x"], [2, 1])

    def test_several_at_once(self):
        bad_saying = ("in", "y", "X")
        good_saying = ("in", "x", "X")
        for frame in NO_FRAMES:
            self.check_refused(NoFrame, bad_saying, frame, [3])
            self.check_refused(NoFrame, good_saying, frame, [99])
            self.check_refused(NoFrame, bad_saying, frame, [99])
            self.check_refused(NoFrame, None, frame, [-1])
        for saying in (bad_saying, None, "x in X", ["in", "x", "X"], ("left", "x", "x")):
            self.check_refused(NoSaying, saying, ["x", "X"], [99])
            self.check_refused(NoSaying, saying, ["x", "X"], [-1, 3])
        self.check_refused(NoRow, good_saying, ["x", "X"], [1, 1, 99])


class UnchangedTest(HoldsCase):

    def test_saying_frame_and_row_stay_as_they_were(self):
        for text, frame, row in (("some y (y in X and y next x)", ["x", "X"], [2, 1, 0]),
                                 ("all Y (X within Y or some x (x in X and not x in Y))", ["X"], [1, 0, 1]),
                                 ("x in X", ["x", "X"], [0, 0])):
            saying = read(text)
            before = copy.deepcopy((saying, frame, row))
            first = holds(saying, frame, row)
            self.assertEqual((saying, frame, row), before)
            self.assertIs(holds(saying, frame, row), first)

    def test_what_is_refused_stays_as_it_was(self):
        for error, saying, frame, row in ((NoFrame, ["in", "x"], ["x", "x"], [9]), (NoSaying, ["in", "x"], ["x"], [9]),
                                          (NoRow, ("same", "x", "x"), ["x"], [1, 9])):
            before = copy.deepcopy((saying, frame, row))
            self.check_refused(error, saying, frame, row)
            self.assertEqual((saying, frame, row), before)

    def test_earlier_questions_leave_no_trace(self):
        saying = read("some y (y next x and y in X)")
        for time in range(3):
            self.assertIs(holds(saying, ["x", "X"], [2, 1]), True)
            self.assertIs(holds(saying, ["x", "X"], [0, 1]), False)
            self.assertIs(holds(saying, ["X", "x"], [1, 2]), True)
            self.assertIs(holds(saying, ["X", "x"], [2, 1]), False)
            self.check_refused(NoSaying, saying, ["x"], [1])


if __name__ == "__main__":
    unittest.main()
