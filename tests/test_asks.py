"""Points 21, 22 and 3: the first row that a machine takes, verdicts, how many rows there are, and their numbers."""

import copy
import random
import unittest

from setsays.asks import how_many, number_of, row_by, shortest, verdict
from setsays.built import built, fitting
from setsays.errors import NoFrame, NoNumber, NoRow, NoSaying, TooGreat
from setsays.machines import takes
from setsays.rows import fits, holds
from setsays.sayings import is_saying
from setsays.texts import read
from tests.helpers import (A_ONE, ALL, ENDS_ONE_NOUGHT, EVEN, GREAT, NO_FRAMES, NOTHING, ProgramCase, every_row,
                           made_up_machine, made_up_saying, rows_of)

# Rows of two letters or more.
TWO_OR_MORE = (1, ((1, 1), (2, 2), (2, 2)), (False, False, True))
# No track: rows whose length is a multiple of three.
BY_THREES = (0, ((1,), (2,), (0,)), (True, False, False))
# Two tracks; by 0 then 3, and by 1 then 0, it is taken.
TWO_WAYS = (2, ((1, 2, 3, 3), (3, 3, 3, 4), (4, 3, 3, 3), (3,) * 4, (3,) * 4), (False,) * 4 + (True,))

NO_LENGTHS = (-1, 101, 102, 10 ** 40, -10 ** 40, True, False, None, "", "1", [], [1], (), (1,), {}, 1.0, object())
NO_NUMBERS = (-1, -2, -10 ** 40, True, False, None, "", "0", [], [0], (), (0,), {}, 0.0, object())


class ShortestTest(ProgramCase):

    def check(self, machine, row):
        with self.subTest(machine=machine):
            found = shortest(machine)
            self.assertEqual(found, row)
            self.assertIs(found.__class__, row.__class__)

    def test_no_row(self):
        self.check(NOTHING, None)
        for tracks in range(5):
            self.check((tracks, ((0,) * 2 ** tracks,), (False,)), None)
            # Taken would be a row that comes to room 2, but none does.
            self.check((tracks, ((1,) * 2 ** tracks, (0,) * 2 ** tracks, (0,) * 2 ** tracks), (False, False, True)),
                       None)

    def test_the_row_without_letters(self):
        for machine in (ALL, EVEN, BY_THREES):
            self.check(machine, [])
        for tracks in range(5):
            self.check((tracks, ((0,) * 2 ** tracks,), (True,)), [])

    def test_one_shortest_row(self):
        self.check(A_ONE, [1])
        self.check(ENDS_ONE_NOUGHT, [1, 0])
        self.check((0, ((1,), (2,), (3,), (0,)), (False, False, False, True)), [0, 0, 0])

    def test_of_several_the_least_as_a_list(self):
        self.check(TWO_OR_MORE, [0, 0])
        self.check(TWO_WAYS, [0, 3])
        self.check((1, ((1, 2), (1, 1), (3, 3), (3, 3)), (False, False, False, True)), [1, 0])
        self.check((2, ((0, 0, 1, 1), (1, 1, 1, 1)), (False, True)), [2])

    def test_the_shortest_goes_ahead_of_the_least(self):
        self.check((1, ((1, 2), (3, 3), (2, 2), (4, 4), (4, 4)), (False, False, True, False, True)), [1])

    def test_as_many_letters_as_rooms_but_one(self):
        line = (1, tuple([(0, room + 1) for room in range(99)]) + ((99, 99),), (False,) * 99 + (True,))
        self.check(line, [1] * 99)

    def test_by_trying_rows(self):
        chance = random.Random(21)
        for tracks, longest in ((0, 9), (1, 7), (2, 4), (3, 3), (4, 2)):
            rows = list(every_row(tracks, longest))
            for time in range(60):
                machine = made_up_machine(chance, tracks, chance.randrange(1, longest + 2))
                self.check(machine, next((row for row in rows if takes(machine, row)), None))


# Each holds for all rows that fit; or with the first row for which it does not.
VERDICTS = (
    ("all x x same x", [], ("yes",)),
    ("some x x same x", [], ("no", [])),
    ("all x all y (x same y or x ahead y)", [], ("no", [0, 0])),
    ("not some x some y some z (x next y and y next z)", [], ("no", [0, 0, 0])),
    ("x same x", ["x"], ("yes",)),
    ("x ahead x", ["x"], ("no", [1])),
    ("some y y ahead x", ["x"], ("no", [1])),
    ("not some y y ahead x", ["x"], ("no", [0, 1])),
    ("not some y x ahead y", ["x"], ("no", [1, 0])),
    ("not some y (y ahead x or x ahead y)", ["x"], ("no", [0, 1])),
    ("some X x in X", ["x"], ("yes",)),
    ("x in X", ["x", "X"], ("no", [1])),
    ("not x in X", ["x", "X"], ("no", [3])),
    ("x in X", ["X", "x"], ("no", [2])),
    ("(x in X or not x in X)", ["x", "X"], ("yes",)),
    ("x ahead y", ["x", "y"], ("no", [3])),
    ("((x ahead y or y ahead x) or x same y)", ["x", "y"], ("yes",)),
    ("(x ahead y or x same y)", ["x", "y"], ("no", [2, 1])),
    ("(y ahead x or x same y)", ["x", "y"], ("no", [1, 2])),
    ("((x next y or y next x) or x same y)", ["x", "y"], ("no", [1, 0, 2])),
    ("(not x next y or x ahead y)", ["x", "y"], ("yes",)),
    ("X within Y", ["X", "Y"], ("no", [1])),
    ("Y within X", ["X", "Y"], ("no", [2])),
    ("((not X within Y or not Y within Z) or X within Z)", ["X", "Y", "Z"], ("yes",)),
    ("((not x ahead y or not y ahead z) or x ahead z)", ["x", "y", "z"], ("yes",)),
    ("not ((x ahead y and y ahead z) and z ahead w)", ["x", "y", "z", "w"], ("no", [1, 2, 4, 8])),
    ("all x (x in X or not some y x next y)", ["X"], ("no", [0, 0])),
)


# Sayings whose machines are told, with ninety-nine rooms; of the rows that fit and for which they don't hold a hundred
# and one pairs are come to; a hundred.
ONE_TOO_MANY = (
    "((((some w (x next w and w next y) or y in X) and ((some w (w ahead x and not w in X) or not some w (y "
    "ahead w and not w in X)) and some w (x ahead w and not w in X))) or ((x in X and some w (y next w and w in "
    "X)) or ((some w (x ahead w and w in X) or not some w w next y) and (some w (w next x and w in X) and not "
    "some w (w next y and w in X))))) or (some w x next w and not some w w in X))"
)
JUST_ENOUGH = (
    "((((some w (w ahead y and w in X) and x in X) or not some w (w next x and not w in X)) or some w x next w) "
    "and (((((x in X or some w (y next w and w in X)) and ((some w (x next w and w in X) or some w (w next y and "
    "not w in X)) and (y in X or some w (w next x and w in X)))) and some w (y ahead w and not w in X)) or (x "
    "same y or not some w (x ahead w and w in X))) or some w (y next w and w next x)))"
)


class VerdictTest(ProgramCase):

    def check_word_by_word(self, saying, frame, longest):
        """No row ahead of the one told, of as many letters or fewer, is one that fits and for which it doesn't hold."""
        found = verdict(saying, frame)
        self.assertIs(found.__class__, tuple)
        if found[0] == "yes":
            self.assertEqual(found, ("yes",))
        else:
            self.assertEqual(len(found), 2)
            self.assertEqual(found[0], "no")
            self.assertIs(found[1].__class__, list)
            self.assertTrue(fits(frame, found[1]))
            self.assertIs(holds(saying, frame, found[1]), False)
        for length in range(longest + 1):
            for row in rows_of(len(frame), length):
                if found[0] == "no" and found[1] == row:
                    return
                if fits(frame, row) and not holds(saying, frame, row):
                    self.fail(repr((saying, frame, row, found)))

    def test_known_ones(self):
        for text, frame, wanted in VERDICTS:
            with self.subTest(text=text, frame=frame):
                found = verdict(read(text), frame)
                self.assertEqual(found, wanted)
                self.assertIs(found.__class__, tuple)

    def test_known_ones_by_trying_rows(self):
        for text, frame, wanted in VERDICTS:
            self.check_word_by_word(read(text), frame, 4 if len(frame) < 3 else 3)

    def test_made_up_sayings(self):
        chance = random.Random(210)
        words = []
        for time in range(250):
            frame = list(chance.choice(([], ["x"], ["X"], ["x", "X"], ["X", "x"], ["x", "y"], ["X", "Y"])))
            saying = made_up_saying(chance, frame, chance.randrange(2, 7))
            if is_saying(saying, frame):
                self.check_word_by_word(saying, frame, 3)
                words.append(verdict(saying, frame)[0])
        self.assertGreater(min(words.count("yes"), words.count("no")), 20)

    def test_what_is_no_frame(self):
        for frame in NO_FRAMES:
            for saying in (("in", "x", "X"), None, ("left", "x", "x"), "x in X"):
                self.check_refused(NoFrame, verdict, saying, frame)

    def test_a_saying_that_is_not_let(self):
        for saying in (None, True, 0, "x in X", [], ["in", "x", "X"], (), ("in", "x"), ("in", "y", "X"),
                       ("left", "x", "x"), ("above", "x", "x"), ("some", "x", ("in", "x", "X")), ({},), object()):
            self.check_refused(NoSaying, verdict, saying, ["x", "X"])

    def test_where_the_built_machine_is_too_great(self):
        for frame, text in GREAT:
            self.check_refused(TooGreat, verdict, read(text), frame)

    def test_where_the_met_machine_alone_is_too_great(self):
        self.assertEqual(len(built(read(ONE_TOO_MANY), ["x", "y", "X"])[1]), 99)
        self.check_refused(TooGreat, verdict, read(ONE_TOO_MANY), ["x", "y", "X"])

    def test_where_just_a_hundred_pairs_are_come_to(self):
        self.assertEqual(len(built(read(JUST_ENOUGH), ["x", "y", "X"])[1]), 99)
        self.check_word_by_word(read(JUST_ENOUGH), ["x", "y", "X"], 4)
        self.assertEqual(verdict(read(JUST_ENOUGH), ["x", "y", "X"])[0], "no")


class HowManyTest(ProgramCase):

    def check(self, machine, length, count):
        with self.subTest(machine=machine, length=length):
            found = how_many(machine, length)
            self.assertEqual(found, count)
            self.assertIs(found.__class__, int)

    def test_known_ones(self):
        for length in (0, 1, 2, 3, 17, 99, 100):
            self.check(ALL, length, 2 ** length)
            self.check(NOTHING, length, 0)
            self.check(EVEN, length, 2 ** length // 2 if length else 1)
            self.check(A_ONE, length, 2 ** length - 1)
            self.check(ENDS_ONE_NOUGHT, length, 2 ** length // 4)
            self.check(BY_THREES, length, int(length % 3 == 0))
            for tracks in range(5):
                self.check((tracks, ((0,) * 2 ** tracks,), (True,)), length, 2 ** (tracks * length))

    def test_rows_that_fit(self):
        for length in (0, 1, 2, 5, 100):
            self.check(fitting(["x"]), length, length)
            self.check(fitting(["x", "y"]), length, length ** 2)
            self.check(fitting(["x", "X"]), length, length * 2 ** length)
            self.check(fitting(["x", "y", "z", "w"]), length, length ** 4)
            self.check(built(("ahead", "x", "y"), ["x", "y"]), length, length * (length - 1) // 2)

    def test_by_trying_rows(self):
        chance = random.Random(22)
        for tracks, longest in ((0, 6), (1, 6), (2, 4), (3, 2), (4, 2)):
            for time in range(12):
                machine = made_up_machine(chance, tracks, chance.randrange(1, 8))
                for length in range(longest + 1):
                    self.check(machine, length, sum(takes(machine, row) for row in rows_of(tracks, length)))

    def test_what_is_no_length(self):
        for machine in (ALL, NOTHING, EVEN, BY_THREES):
            for length in NO_LENGTHS:
                self.check_refused(NoNumber, how_many, machine, length)


class NumbersTest(ProgramCase):

    def check_all(self, machine, length):
        """All rows of this length: numbered in the order of lists, and back."""
        rows = [row for row in rows_of(machine[0], length) if takes(machine, row)]
        self.assertEqual(how_many(machine, length), len(rows))
        self.assertEqual([row_by(machine, length, number) for number in range(len(rows))], rows)
        self.assertEqual([number_of(machine, row) for row in rows], list(range(len(rows))))
        self.check_refused(NoNumber, row_by, machine, length, len(rows))
        self.check_refused(NoNumber, row_by, machine, length, -1)

    def test_known_ones(self):
        self.assertEqual([row_by(EVEN, 3, number) for number in range(4)], [[0, 0, 0], [0, 1, 1], [1, 0, 1], [1, 1, 0]])
        self.assertEqual([row_by(TWO_WAYS, 2, number) for number in range(2)], [[0, 3], [1, 0]])
        self.assertEqual(row_by(BY_THREES, 6, 0), [0] * 6)
        self.assertEqual(number_of(EVEN, [1, 0, 1]), 2)
        self.assertEqual(number_of(TWO_WAYS, [1, 0]), 1)
        self.assertEqual(number_of(BY_THREES, [0] * 99), 0)

    def test_a_row_without_letters(self):
        for machine in (ALL, EVEN, BY_THREES):
            self.assertEqual(row_by(machine, 0, 0), [])
            self.assertEqual(number_of(machine, []), 0)
            self.check_refused(NoNumber, row_by, machine, 0, 1)
        for machine in (NOTHING, A_ONE, ENDS_ONE_NOUGHT, TWO_WAYS):
            self.check_refused(NoNumber, row_by, machine, 0, 0)
            self.check_refused(NoRow, number_of, machine, [])

    def test_all_rows_of_small_lengths(self):
        for machine in (ALL, NOTHING, EVEN, A_ONE, ENDS_ONE_NOUGHT, TWO_OR_MORE, BY_THREES, TWO_WAYS):
            for length in range(6):
                self.check_all(machine, length)

    def test_made_up_machines(self):
        chance = random.Random(220)
        for tracks, longest in ((0, 6), (1, 6), (2, 4), (3, 2), (4, 2)):
            for time in range(8):
                machine = made_up_machine(chance, tracks, chance.randrange(1, 8))
                for length in range(longest + 1):
                    self.check_all(machine, length)

    def test_long_rows(self):
        chance = random.Random(221)
        for tracks in range(5):
            machine = made_up_machine(chance, tracks, 9)
            for length in (50, 99, 100):
                count = how_many(machine, length)
                numbers = [0, count - 1, count // 2] + [chance.randrange(count) for time in range(10)] if count else []
                for number in numbers:
                    row = row_by(machine, length, number)
                    self.assertEqual(len(row), length)
                    self.assertIs(takes(machine, row), True)
                    self.assertEqual(number_of(machine, row), number)
                rows = [row_by(machine, length, number) for number in sorted(numbers)]
                self.assertEqual(rows, sorted(rows))
                self.check_refused(NoNumber, row_by, machine, length, count)

    def test_a_hundred_letters(self):
        self.assertEqual(row_by(ALL, 100, 2 ** 100 - 1), [1] * 100)
        self.assertEqual(row_by(ALL, 100, 0), [0] * 100)
        self.assertEqual(row_by(ALL, 100, 5), [0] * 97 + [1, 0, 1])
        self.assertEqual(number_of(ALL, [1] + [0] * 99), 2 ** 99)
        wide = (4, ((0,) * 16,), (True,))
        self.assertEqual(number_of(wide, [15] * 100), 16 ** 100 - 1)
        self.assertEqual(row_by(wide, 100, 16 ** 100 - 1), [15] * 100)
        self.check_refused(NoNumber, row_by, wide, 100, 16 ** 100)

    def test_what_is_no_length(self):
        for machine in (ALL, NOTHING, EVEN):
            for length in NO_LENGTHS:
                for number in (0, 1, -1, None, "0", []):
                    self.check_refused(NoNumber, row_by, machine, length, number)

    def test_what_is_no_number(self):
        for machine, length in ((ALL, 0), (ALL, 3), (EVEN, 100), (NOTHING, 5), (BY_THREES, 3)):
            for number in NO_NUMBERS + (how_many(machine, length), how_many(machine, length) + 1, 10 ** 60):
                self.check_refused(NoNumber, row_by, machine, length, number)

    def test_a_row_of_more_than_a_hundred_letters(self):
        self.assertEqual(number_of(ALL, [0] * 100), 0)
        for length in (101, 102, 300):
            self.check_refused(NoRow, number_of, ALL, [0] * length)
            self.check_refused(NoRow, number_of, NOTHING, [0] * length)
            self.check_refused(NoRow, number_of, BY_THREES, [0] * length)

    def test_a_row_that_is_not_taken(self):
        for machine, row in ((NOTHING, [0]), (EVEN, [1]), (EVEN, [0] * 99 + [1]), (A_ONE, [0, 0]), (BY_THREES, [0]),
                             (ENDS_ONE_NOUGHT, [1, 0, 0]), (TWO_WAYS, [0, 3, 0])):
            self.check_refused(NoRow, number_of, machine, row)


class UnchangedTest(ProgramCase):

    def test_what_is_handed_in_stays_as_it_was(self):
        saying = read("some y (y next x and not y in X)")
        things = (TWO_WAYS, EVEN, saying, ["x", "X"], [1, 0, 1])
        before = copy.deepcopy(things)
        for time in range(2):
            self.assertEqual(shortest(TWO_WAYS), [0, 3])
            self.assertEqual(verdict(saying, things[3]), ("no", [1]))
            self.assertEqual(how_many(EVEN, 3), 4)
            self.assertEqual(row_by(EVEN, 3, 2), [1, 0, 1])
            self.assertEqual(number_of(EVEN, things[4]), 2)
            self.assertEqual(things, before)

    def test_what_is_refused_stays_as_it_was(self):
        for error, ask, things in ((NoRow, number_of, (EVEN, [1, 0])), (NoRow, number_of, (ALL, [1] * 101)),
                                   (NoNumber, row_by, (EVEN, [3], [0])), (NoNumber, how_many, (EVEN, [3])),
                                   (NoFrame, verdict, (["in"], ["x", "x"])), (NoSaying, verdict, (["in"], ["x"]))):
            before = copy.deepcopy(things)
            self.check_refused(error, ask, *things)
            self.assertEqual(things, before)

    def test_the_rows_are_the_askers_own(self):
        saying = read("((x next y or y next x) or x same y)")
        for ask in (lambda: shortest(ALL), lambda: shortest(TWO_WAYS), lambda: verdict(saying, ["x", "y"])[1],
                    lambda: row_by(EVEN, 3, 2), lambda: row_by(EVEN, 0, 0)):
            one = ask()
            other = ask()
            wanted = list(other)
            self.assertIsNot(one, other)
            one.append(9)
            one[0] = 7
            self.assertEqual(other, wanted)
            other.clear()
            self.assertEqual(ask(), wanted)


if __name__ == "__main__":
    unittest.main()
