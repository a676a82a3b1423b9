"""Points 12, 13 and 14: machines, what they take, their reduced form, and what parts them."""

import copy
import itertools
import random
import unittest

from setsays.errors import NoWidth
from setsays.machines import gone, parted, reduced, takes
from tests.helpers import A_ONE, ALL, ENDS_ONE_NOUGHT, EVEN, NOTHING, every_row, made_up_machine, of_right_kinds

# Rows of exactly two letters.
TWO_LETTERS = (1, ((1, 1), (2, 2), (3, 3), (3, 3)), (False, False, True, False))
# No track: the one letter is 0. Rows whose length is a multiple of three.
BY_THREES = (0, ((1,), (2,), (0,)), (True, False, False))


def room_from(machine, room, row):
    for letter in row:
        room = machine[1][room][letter]
    return room


def reduced_by_rows(machine):
    """Point 13 by trying rows: two rooms do the same where every row shorter than there are rooms does."""
    rows = list(every_row(machine[0], len(machine[1]) - 1))
    marks = [tuple([machine[2][room_from(machine, room, row)] for row in rows]) for room in range(len(machine[1]))]
    # Rooms by the first row that comes to one that does the same: this is the order in which they are come to.
    firsts = {}
    for row in rows:
        room = room_from(machine, 0, row)
        firsts.setdefault(marks[room], room)
    numbers = {mark: number for number, mark in enumerate(firsts)}
    ways = [tuple([numbers[marks[room]] for room in machine[1][first]]) for first in firsts.values()]
    return (machine[0], tuple(ways), tuple([machine[2][first] for first in firsts.values()]))


def scattered(chance, machine):
    """A machine that is alike: each room twice, as it chances numbered, and some that are never come to."""
    count = len(machine[1])
    extra = 2
    order = list(range(1, 2 * count + extra))
    chance.shuffle(order)
    numbers = [0] + order
    ways = [None] * len(numbers)
    ends = [None] * len(numbers)
    for number, place in enumerate(numbers):
        room = number % count
        ends[place] = machine[2][room]
        ways[place] = tuple([numbers[to + chance.choice((0, count))] for to in machine[1][room]])
        if number >= 2 * count:
            ends[place] = chance.random() < 0.5
            ways[place] = tuple([chance.randrange(len(numbers)) for to in machine[1][room]])
    return (machine[0], tuple(ways), tuple(ends))


class GoneAndTakesTest(unittest.TestCase):

    def check(self, machine, row, rooms):
        with self.subTest(machine=machine, row=row):
            found = gone(machine, row)
            self.assertIs(found.__class__, list)
            self.assertEqual(found, rooms)
            self.assertIs(takes(machine, row), machine[2][rooms[-1]])

    def test_a_row_without_letters(self):
        for machine in (ALL, NOTHING, EVEN, A_ONE, TWO_LETTERS, BY_THREES):
            self.check(machine, [], [0])
        self.assertIs(takes(ALL, []), True)
        self.assertIs(takes(NOTHING, []), False)
        self.assertIs(takes(EVEN, []), True)
        self.assertIs(takes(A_ONE, []), False)

    def test_one_room(self):
        for tracks in range(5):
            for truth in (True, False):
                machine = (tracks, ((0,) * 2 ** tracks,), (truth,))
                row = list(range(2 ** tracks))
                self.check(machine, row, [0] * (len(row) + 1))
                self.assertIs(takes(machine, row), truth)

    def test_no_tracks(self):
        for length in range(10):
            self.check(BY_THREES, [0] * length, [number % 3 for number in range(length + 1)])
            self.assertIs(takes(BY_THREES, [0] * length), length % 3 == 0)

    def test_one_track(self):
        self.check(EVEN, [1, 0, 1, 1], [0, 1, 1, 0, 1])
        self.check(A_ONE, [0, 0, 1, 0], [0, 0, 0, 1, 1])
        self.check(TWO_LETTERS, [1, 0, 0, 1], [0, 1, 2, 3, 3])
        self.check(ENDS_ONE_NOUGHT, [1, 1, 0, 0, 1, 0], [0, 1, 1, 2, 0, 1, 2])
        for row in every_row(1, 6):
            self.assertIs(takes(EVEN, row), row.count(1) % 2 == 0)
            self.assertIs(takes(A_ONE, row), 1 in row)
            self.assertIs(takes(TWO_LETTERS, row), len(row) == 2)
            self.assertIs(takes(ENDS_ONE_NOUGHT, row), row[-2:] == [1, 0])

    def test_each_letter_of_two_to_four_tracks(self):
        for tracks in (2, 3, 4):
            count = 2 ** tracks
            # By a letter to the room of its number, wherever one is.
            machine = (tracks, (tuple(range(count)),) * count, tuple([room % 3 == 1 for room in range(count)]))
            for row in every_row(tracks, 2):
                self.check(machine, row, [0] + row)
            row = [count - 1, 0, 1, count - 2, 1]
            self.check(machine, row, [0] + row)

    def test_each_beginning_of_a_row(self):
        chance = random.Random(12)
        for tracks in range(5):
            for rooms in (1, 2, 3, 7, 20):
                machine = made_up_machine(chance, tracks, rooms)
                row = [chance.randrange(2 ** tracks) for letter in range(40)]
                whole = gone(machine, row)
                self.assertEqual(len(whole), 41)
                for length in range(41):
                    self.check(machine, row[:length], whole[:length + 1])
                    self.assertEqual(whole[length], room_from(machine, 0, row[:length]))

    def test_long_rows(self):
        row = [1, 0, 0] * 100
        self.assertEqual(len(gone(EVEN, row)), 301)
        self.assertIs(takes(EVEN, row), True)
        self.assertIs(takes(EVEN, row[1:]), False)

    def test_the_list_is_the_askers_own(self):
        row = [1, 0, 1]
        for wanted, asked in (([0, 1, 1, 0], row), ([0], [])):
            one = gone(EVEN, asked)
            other = gone(EVEN, asked)
            self.assertIsNot(one, other)
            one.append(9)
            one[0] = 5
            self.assertEqual(other, wanted)
            other.clear()
            self.assertEqual(gone(EVEN, asked), wanted)
        self.assertEqual(row, [1, 0, 1])


class ReducedTest(unittest.TestCase):

    def check(self, machine, wanted):
        with self.subTest(machine=machine):
            found = reduced(machine)
            self.assertEqual(found, wanted)
            self.assertTrue(of_right_kinds(found))
            self.assertEqual(reduced(found), found)

    def test_what_is_reduced_already(self):
        for machine in (ALL, NOTHING, EVEN, A_ONE, TWO_LETTERS, ENDS_ONE_NOUGHT, BY_THREES):
            self.check(machine, machine)

    def test_rooms_that_are_never_come_to_go(self):
        self.check((1, ((0, 0), (0, 1)), (True, False)), ALL)
        self.check((1, ((0, 2), (1, 2), (2, 0)), (True, True, False)), EVEN)
        self.check((1, ((0, 1), (1, 0), (3, 2), (0, 2)), (True, False, True, False)), EVEN)
        self.check((1, ((2, 2), (1, 0), (2, 2)), (True, False, True)), ALL)

    def test_rooms_that_do_the_same_become_one(self):
        self.check((1, ((1, 2), (2, 0), (0, 1)), (True, True, True)), ALL)
        self.check((1, ((1, 2), (2, 0), (0, 1)), (False, False, False)), NOTHING)
        self.check((1, ((2, 1), (3, 0), (0, 3), (1, 2)), (True, False, True, False)), EVEN)
        self.check((1, ((0, 1), (2, 1), (1, 2)), (False, True, True)), A_ONE)
        self.check((0, ((1,), (2,), (3,), (4,), (5,), (0,)), (True, False, False, True, False, False)), BY_THREES)
        self.check((0, ((1,), (2,), (3,), (1,)), (True, False, False, True)), BY_THREES)

    def test_rooms_with_the_same_truth_that_do_not_do_the_same(self):
        self.check((0, ((1,), (2,), (3,), (3,)), (False, False, False, True)),
                   (0, ((1,), (2,), (3,), (3,)), (False, False, False, True)))
        self.check((0, ((1,), (2,), (3,), (4,), (4,)), (False, False, False, True, True)),
                   (0, ((1,), (2,), (3,), (3,)), (False, False, False, True)))

    def test_numbered_in_the_order_in_which_they_are_come_to(self):
        self.check((1, ((2, 1), (1, 1), (2, 0)), (False, True, True)),
                   (1, ((1, 2), (1, 0), (2, 2)), (False, True, True)))
        self.check((1, ((0, 3), (1, 1), (1, 1), (2, 2)), (False, False, True, False)),
                   (1, ((0, 1), (2, 2), (3, 3), (3, 3)), (False, False, True, False)))
        self.check((2, ((0, 3, 1, 2), (1, 1, 1, 1), (2, 2, 2, 0), (3, 0, 3, 3)), (False, True, False, False)),
                   (2, ((0, 1, 2, 3), (1, 0, 1, 1), (2, 2, 2, 2), (3, 3, 3, 0)), (False, False, True, False)))

    def test_fewer_and_in_order_at_once(self):
        self.check((2, ((3, 2, 1, 0), (1, 1, 1, 1), (2, 2, 1, 2), (3, 1, 2, 3)), (True, False, False, True)),
                   (2, ((0, 1, 1, 0), (1, 1, 1, 1)), (True, False)))
        self.check((1, ((3, 2), (1, 1), (2, 1), (3, 4), (4, 4)), (False, True, False, False, False)),
                   (1, ((1, 2), (1, 1), (2, 3), (3, 3)), (False, False, False, True)))

    def test_room_nought_stays_the_first(self):
        self.check((1, ((1, 1), (0, 0)), (False, True)), (1, ((1, 1), (0, 0)), (False, True)))
        self.check((1, ((2, 2), (0, 0), (1, 1)), (True, True, True)), ALL)

    def test_small_machines_by_trying_rows(self):
        for rooms in (1, 2, 3):
            pairs = list(itertools.product(range(rooms), repeat=2))
            for ways in itertools.product(pairs, repeat=rooms):
                for ends in itertools.product((False, True), repeat=rooms):
                    machine = (1, ways, ends)
                    if reduced(machine) != reduced_by_rows(machine):
                        self.fail(repr(machine))

    def test_made_up_machines_by_trying_rows(self):
        chance = random.Random(13)
        for tracks, most in ((0, 9), (1, 7), (2, 5), (3, 3), (4, 3)):
            for time in range(60):
                machine = made_up_machine(chance, tracks, chance.randrange(1, most + 1))
                self.check(machine, reduced_by_rows(machine))

    def test_the_same_rows_are_taken(self):
        chance = random.Random(130)
        for tracks in range(5):
            for rooms in (1, 4, 12, 40):
                machine = made_up_machine(chance, tracks, rooms)
                found = reduced(machine)
                self.assertLessEqual(len(found[1]), rooms)
                self.assertEqual(found[0], tracks)
                for time in range(200):
                    row = [chance.randrange(2 ** tracks) for letter in range(chance.randrange(12))]
                    self.assertIs(takes(found, row), takes(machine, row))

    def test_machines_that_are_alike_have_the_same_reduced_one(self):
        chance = random.Random(131)
        for tracks in range(5):
            for rooms in (1, 2, 5, 17, 48):
                machine = made_up_machine(chance, tracks, rooms)
                wanted = reduced(machine)
                for time in range(5):
                    self.check(scattered(chance, machine), wanted)

    def test_machines_that_are_not_alike_have_other_reduced_ones(self):
        machines = (ALL, NOTHING, EVEN, A_ONE, TWO_LETTERS, ENDS_ONE_NOUGHT)
        for one, other in itertools.combinations(machines, 2):
            self.assertNotEqual(reduced(one), reduced(other))

    def test_a_hundred_rooms(self):
        ring = (1, tuple([((room + 1) % 100, room) for room in range(100)]), (True,) + (False,) * 99)
        self.check(ring, ring)
        halves = (1, ring[1], ((True,) + (False,) * 49) * 2)
        self.check(halves, (1, tuple([((room + 1) % 50, room) for room in range(50)]), (True,) + (False,) * 49))
        line = (4, tuple([(min(room + 1, 99),) * 16 for room in range(100)]), (False,) * 99 + (True,))
        self.check(line, line)

    def test_the_machine_stays_as_it_was(self):
        machine = (1, ((2, 1), (3, 0), (0, 3), (1, 2)), (True, False, True, False))
        before = copy.deepcopy(machine)
        self.assertEqual(reduced(machine), reduced(machine))
        self.assertEqual(machine, before)


class PartedTest(unittest.TestCase):

    def check(self, one, other, row):
        with self.subTest(one=one, other=other):
            for found in (parted(one, other), parted(other, one)):
                self.assertEqual(found, row)
                self.assertIs(found.__class__, row.__class__)

    def test_the_row_without_letters(self):
        self.check(ALL, NOTHING, [])
        self.check(EVEN, A_ONE, [])
        self.check(BY_THREES, (0, ((0,),), (False,)), [])

    def test_the_shortest_row(self):
        self.check(EVEN, ALL, [1])
        self.check(A_ONE, NOTHING, [1])
        self.check(TWO_LETTERS, NOTHING, [0, 0])
        self.check(ENDS_ONE_NOUGHT, NOTHING, [1, 0])
        self.check(BY_THREES, (0, ((1,), (1,)), (True, False)), [0, 0, 0])
        self.check(A_ONE, ENDS_ONE_NOUGHT, [1])

    def test_of_several_the_least_as_a_list(self):
        self.check(TWO_LETTERS, ENDS_ONE_NOUGHT, [0, 0])
        self.check((1, ((1, 1), (1, 0)), (True, False)), ALL, [0])
        # The rows that part them are [1, 0], [1, 1] and [2, 0] among those of two letters.
        one = (2, ((3, 1, 2, 3), (4, 4, 3, 3), (4, 3, 3, 3), (3,) * 4, (3,) * 4), (False,) * 4 + (True,))
        self.check(one, (2, ((0,) * 4,), (False,)), [1, 0])

    def test_least_by_the_first_letter_that_differs(self):
        # By 0 then 3 and by 1 then 0 it is taken: the former is the lesser list.
        machine = (2, ((1, 2, 3, 3), (3, 3, 3, 4), (4, 3, 3, 3), (3,) * 4, (3,) * 4), (False,) * 4 + (True,))
        self.check(machine, (2, ((0,) * 4,), (False,)), [0, 3])

    def test_none_where_they_are_alike(self):
        for machine in (ALL, NOTHING, EVEN, A_ONE, TWO_LETTERS, ENDS_ONE_NOUGHT, BY_THREES):
            self.check(machine, machine, None)
        self.check((1, ((1, 2), (2, 0), (0, 1)), (True, True, True)), ALL, None)
        self.check((1, ((2, 1), (3, 0), (0, 3), (1, 2)), (True, False, True, False)), EVEN, None)

    def test_made_up_machines_by_trying_rows(self):
        chance = random.Random(14)
        parting = 0
        for tracks, most in ((0, 6), (1, 4), (2, 2), (3, 2), (4, 1)):
            for time in range(80):
                one = made_up_machine(chance, tracks, chance.randrange(1, most + 1))
                other = made_up_machine(chance, tracks, chance.randrange(1, most + 1))
                # Two machines that are not alike part by a row of fewer letters than both have rooms.
                rows = every_row(tracks, len(one[1]) + len(other[1]) - 1)
                apart = [row for row in rows if takes(one, row) != takes(other, row)]
                self.check(one, other, apart[0] if apart else None)
                parting += apart != [] and apart[0] != []
        self.assertGreater(parting, 50)

    def test_a_reduced_machine_is_alike(self):
        chance = random.Random(140)
        for tracks in range(5):
            for rooms in (1, 3, 10, 30):
                machine = made_up_machine(chance, tracks, rooms)
                self.check(machine, reduced(machine), None)
                self.check(machine, scattered(chance, machine), None)

    def test_long_rows(self):
        line = (1, tuple([(room + 1, 0) for room in range(99)]) + ((99, 99),), (False,) * 99 + (True,))
        self.check(line, NOTHING, [0] * 99)
        threes = (0, tuple([((room + 1) % 99,) for room in range(99)]), (True,) + (False,) * 98)
        hundreds = (0, tuple([((room + 1) % 100,) for room in range(100)]), (True,) + (False,) * 99)
        self.check(threes, hundreds, [0] * 99)
        late = (1, line[1], (True,) * 99 + (False,))
        self.check(late, ALL, [0] * 99)

    def test_tracks_that_are_not_as_many(self):
        machines = [(tracks, ((0,) * 2 ** tracks,), (True,)) for tracks in range(5)]
        for one, other in itertools.permutations(machines + [BY_THREES, EVEN, A_ONE], 2):
            if one[0] == other[0]:
                continue
            with self.subTest(one=one, other=other):
                with self.assertRaises(ValueError) as caught:
                    parted(one, other)
                self.assertIs(caught.exception.__class__, NoWidth)
        for one, other in itertools.product(machines, repeat=2):
            if one[0] == other[0]:
                self.check(one, other, None)

    def test_the_row_is_the_askers_own_and_the_machines_stay(self):
        before = copy.deepcopy((ENDS_ONE_NOUGHT, NOTHING, ALL))
        for other, wanted in ((NOTHING, [1, 0]), (ALL, [])):
            first = parted(ENDS_ONE_NOUGHT, other)
            second = parted(ENDS_ONE_NOUGHT, other)
            self.assertIsNot(first, second)
            first.append(7)
            self.assertEqual(second, wanted)
            self.assertEqual(parted(ENDS_ONE_NOUGHT, other), wanted)
        self.assertEqual((ENDS_ONE_NOUGHT, NOTHING, ALL), before)


if __name__ == "__main__":
    unittest.main()
