"""Points 15, 16 and 17: machines flipped, met, joined, widened and with a track dropped."""

import copy
import itertools
import random
import unittest

from setsays.errors import NoWidth, TooGreat
from setsays.joins import dropped, flipped, joined, met, widened
from setsays.machines import reduced, takes
from tests.helpers import A_ONE, ALL, ENDS_ONE_NOUGHT, EVEN, NOTHING, ProgramCase, every_row, made_up_machine


def made_up_rows(chance, tracks, count):
    """Rows of all lengths up to three hundred, short ones more often."""
    for time in range(count):
        length = chance.choice((chance.randrange(4), chance.randrange(12), chance.randrange(60), 300))
        yield [chance.randrange(2 ** tracks) for letter in range(length)]


def machine_list(chance):
    """Machines of none to four tracks, of one room and of several."""
    for tracks in range(5):
        for truth in (True, False):
            yield (tracks, ((0,) * 2 ** tracks,), (truth,))
        for rooms in (2, 3, 5, 9):
            yield made_up_machine(chance, tracks, rooms)


def without_track(letter, track):
    """The letter written in binary figures, with the figure of the track struck out."""
    figures = format(letter, "08b")[::-1]
    return int((figures[:track] + figures[track + 1:])[::-1], 2)


def with_track(letter, track, figure):
    """The letter written in binary figures, with a figure put in for the track."""
    figures = format(letter, "08b")[::-1]
    return int((figures[:track] + figure + figures[track:])[::-1], 2)


def pairs_machine(one, other, end_of):
    """All pairs of rooms, whether or not they are come to."""
    count = len(other[1])
    ways = []
    ends = []
    for first in range(len(one[1])):
        for second in range(count):
            ways.append(tuple([one[1][first][letter] * count + other[1][second][letter]
                               for letter in range(2 ** one[0])]))
            ends.append(end_of((one[2][first], other[2][second])))
    return reduced((one[0], tuple(ways), tuple(ends)))


def some_way_taken(machine, track, row):
    """Whether the row is taken by some way of putting the track back: all ways are gone at once."""
    rooms = {0}
    for letter in row:
        rooms = {machine[1][room][with_track(letter, track, figure)] for room in rooms for figure in "01"}
    return any(machine[2][room] for room in rooms)


def ring(length, ends=(0,), tail=0):
    """No track: a line of rooms, then a ring of so many; taken is where the ring's room is one of the ends."""
    count = tail + length
    ways = [(room + 1,) for room in range(count - 1)] + [(tail,)]
    return (0, tuple(ways), tuple([room - tail in ends for room in range(count)]))


def two_rings(one, other, ends=True):
    """One track: by the first letter into a ring of one length or the other, then round by every letter."""
    ways = [(1, 1 + one)]
    for first, length in ((1, one), (1 + one, other)):
        ways += [(first + (at + 1) % length,) * 2 for at in range(length)]
    return (1, tuple(ways), tuple([ends and room in (1, 1 + one) for room in range(1 + one + other)]))


class FlippedTest(ProgramCase):

    def test_known_ones(self):
        self.assertEqual(flipped(ALL), NOTHING)
        self.assertEqual(flipped(NOTHING), ALL)
        self.assertEqual(flipped(EVEN), (1, ((0, 1), (1, 0)), (False, True)))
        self.assertEqual(flipped(A_ONE), (1, ((0, 1), (1, 1)), (True, False)))
        self.assertEqual(flipped(ENDS_ONE_NOUGHT), (1, ((0, 1), (2, 1), (0, 1)), (True, True, False)))
        self.assertEqual(flipped((0, ((0,),), (True,))), (0, ((0,),), (False,)))

    def test_what_is_not_reduced(self):
        self.assertEqual(flipped((1, ((2, 1), (3, 0), (0, 3), (1, 2)), (True, False, True, False))), flipped(EVEN))
        self.assertEqual(flipped((1, ((1, 2), (2, 0), (0, 1)), (True, True, True))), NOTHING)
        self.assertEqual(flipped((1, ((0, 2), (1, 2), (2, 0)), (True, True, False))), flipped(EVEN))

    def test_takes_just_what_the_machine_does_not(self):
        chance = random.Random(15)
        for machine in machine_list(chance):
            found = flipped(machine)
            self.check_form(found, machine[0])
            for row in itertools.chain(every_row(machine[0], 2), made_up_rows(chance, machine[0], 40)):
                self.assertIs(takes(found, row), not takes(machine, row))

    def test_flipped_again(self):
        chance = random.Random(150)
        for machine in machine_list(chance):
            self.assertEqual(flipped(flipped(machine)), reduced(machine))

    def test_a_hundred_rooms(self):
        machine = ring(100, (7, 50))
        self.assertEqual(flipped(machine)[1], machine[1])
        self.assertEqual(flipped(machine)[2], tuple([not end for end in machine[2]]))


class MetAndJoinedTest(ProgramCase):

    def test_known_ones(self):
        # An even number of ones, and at least one.
        self.assertEqual(met(EVEN, A_ONE), (1, ((0, 1), (1, 2), (2, 1)), (False, False, True)))
        # An odd number of ones is a one: so all is taken.
        self.assertEqual(joined(EVEN, A_ONE), ALL)
        self.assertEqual(joined(flipped(EVEN), A_ONE), A_ONE)
        self.assertEqual(met(flipped(EVEN), A_ONE), flipped(EVEN))
        self.assertEqual(met(flipped(A_ONE), A_ONE), NOTHING)
        self.assertEqual(met(A_ONE, ENDS_ONE_NOUGHT), ENDS_ONE_NOUGHT)
        self.assertEqual(joined(A_ONE, ENDS_ONE_NOUGHT), A_ONE)
        self.assertEqual(met(ring(2), ring(3)), ring(6))
        self.assertEqual(joined(ring(2), ring(3)), ring(6, (0, 2, 3, 4)))
        self.assertEqual(met(ring(2), ring(2, (1,))), (0, ((0,),), (False,)))
        self.assertEqual(joined(ring(2), ring(2, (1,))), (0, ((0,),), (True,)))

    def test_with_all_and_with_nothing(self):
        for machine in (ALL, NOTHING, EVEN, A_ONE, ENDS_ONE_NOUGHT):
            self.assertEqual(met(machine, ALL), machine)
            self.assertEqual(met(machine, NOTHING), NOTHING)
            self.assertEqual(joined(machine, ALL), ALL)
            self.assertEqual(joined(machine, NOTHING), machine)

    def test_by_rows_and_by_all_pairs(self):
        chance = random.Random(16)
        for tracks in range(5):
            for one_rooms, other_rooms in ((1, 1), (1, 4), (4, 1), (2, 2), (3, 4), (7, 8), (10, 10)):
                for time in range(6):
                    one = made_up_machine(chance, tracks, one_rooms)
                    other = made_up_machine(chance, tracks, other_rooms)
                    both = met(one, other)
                    either = joined(one, other)
                    self.check_form(both, tracks)
                    self.check_form(either, tracks)
                    self.assertEqual(both, pairs_machine(one, other, all))
                    self.assertEqual(either, pairs_machine(one, other, any))
                    for row in itertools.chain(every_row(tracks, 1), made_up_rows(chance, tracks, 12)):
                        truths = (takes(one, row), takes(other, row))
                        self.assertIs(takes(both, row), all(truths))
                        self.assertIs(takes(either, row), any(truths))

    def test_turned_about(self):
        chance = random.Random(160)
        for tracks in range(5):
            for time in range(10):
                one = made_up_machine(chance, tracks, chance.randrange(1, 10))
                other = made_up_machine(chance, tracks, chance.randrange(1, 11))
                self.assertEqual(met(one, other), met(other, one))
                self.assertEqual(joined(one, other), joined(other, one))

    def test_of_one_with_itself(self):
        chance = random.Random(161)
        for machine in machine_list(chance):
            self.assertEqual(met(machine, machine), reduced(machine))
            self.assertEqual(joined(machine, machine), reduced(machine))

    def test_of_one_with_its_flipped(self):
        chance = random.Random(162)
        for machine in machine_list(chance):
            tracks = machine[0]
            self.assertEqual(met(machine, flipped(machine)), (tracks, ((0,) * 2 ** tracks,), (False,)))
            self.assertEqual(joined(machine, flipped(machine)), (tracks, ((0,) * 2 ** tracks,), (True,)))


class WidenedTest(ProgramCase):

    def test_known_ones(self):
        self.assertEqual(widened(ring(3), 0), (1, ((1, 1), (2, 2), (0, 0)), (True, False, False)))
        # The old track is now the upper one; the lower one.
        self.assertEqual(widened(A_ONE, 0), (2, ((0, 0, 1, 1), (1, 1, 1, 1)), (False, True)))
        self.assertEqual(widened(A_ONE, 1), (2, ((0, 1, 0, 1), (1, 1, 1, 1)), (False, True)))
        by_letters = (2, ((0, 1, 2, 3), (1, 1, 1, 1), (2, 2, 2, 2), (3, 0, 3, 3)), (False, True, False, False))
        self.assertEqual(widened(by_letters, 1),
                         (3, ((0, 1, 0, 1, 2, 3, 2, 3), (1,) * 8, (2,) * 8, (3, 0, 3, 0, 3, 3, 3, 3)), by_letters[2]))

    def test_what_is_not_reduced(self):
        self.assertEqual(widened((1, ((1, 2), (2, 0), (0, 1)), (True, True, True)), 0), (2, ((0,) * 4,), (True,)))
        self.assertEqual(widened((1, ((0, 2), (1, 2), (2, 0)), (True, True, False)), 1), widened(EVEN, 1))

    def test_by_rows(self):
        chance = random.Random(17)
        for machine in machine_list(chance):
            for track in range(machine[0] + 1):
                if machine[0] == 4:
                    continue
                found = widened(machine, track)
                self.check_form(found, machine[0] + 1)
                self.assertEqual(len(found[1]), len(reduced(machine)[1]))
                for row in itertools.chain(every_row(found[0], 2), made_up_rows(chance, found[0], 25)):
                    old_row = [without_track(letter, track) for letter in row]
                    self.assertIs(takes(found, row), takes(machine, old_row), (machine, track, row))

    def test_the_new_track_has_no_say(self):
        chance = random.Random(170)
        for tracks in range(4):
            machine = made_up_machine(chance, tracks, 6)
            for track in range(tracks + 1):
                found = widened(machine, track)
                for row in made_up_rows(chance, tracks, 20):
                    for time in range(3):
                        new_row = [with_track(letter, track, chance.choice("01")) for letter in row]
                        self.assertIs(takes(found, new_row), takes(machine, row))

    def test_a_hundred_rooms(self):
        found = widened(ring(100, (3,)), 0)
        self.assertEqual(found[1], tuple([(room, room) for (room,) in ring(100)[1]]))


class DroppedTest(ProgramCase):

    def test_of_one_track(self):
        self.assertEqual(dropped(ALL, 0), (0, ((0,),), (True,)))
        self.assertEqual(dropped(NOTHING, 0), (0, ((0,),), (False,)))
        # Noughts alone will do.
        self.assertEqual(dropped(EVEN, 0), (0, ((0,),), (True,)))
        self.assertEqual(dropped(flipped(EVEN), 0), (0, ((1,), (1,)), (False, True)))
        self.assertEqual(dropped(A_ONE, 0), (0, ((1,), (1,)), (False, True)))
        self.assertEqual(dropped(ENDS_ONE_NOUGHT, 0), (0, ((1,), (2,), (2,)), (False, False, True)))

    def test_each_letter_for_itself_in_or_not(self):
        # A row of just two letters that has track 0 in one of them alone; track 1 is in both or in none.
        machine = (2, ((1, 2, 3, 4), (5, 6, 5, 5), (6, 5, 5, 5), (5, 5, 5, 6), (5, 5, 6, 5), (5,) * 4, (5,) * 4),
                   (False,) * 6 + (True,))
        self.assertEqual(dropped(machine, 0), (1, ((1, 2), (3, 4), (4, 3), (4, 4), (4, 4)),
                                               (False, False, False, True, False)))
        self.assertEqual(dropped(machine, 1), (1, ((1, 2), (3, 4), (4, 3), (3, 3), (3, 3)),
                                               (False, False, False, False, True)))

    def test_by_rows_every_way(self):
        chance = random.Random(18)
        for tracks in range(1, 5):
            for rooms in (1, 2, 4):
                machine = made_up_machine(chance, tracks, rooms)
                for track in range(tracks):
                    found = dropped(machine, track)
                    self.check_form(found, tracks - 1)
                    for row in every_row(tracks - 1, 3):
                        ways = itertools.product("01", repeat=len(row))
                        wanted = any(takes(machine, [with_track(letter, track, figure)
                                                     for letter, figure in zip(row, way)]) for way in ways)
                        self.assertIs(takes(found, row), wanted, (machine, track, row))

    def test_by_longer_rows(self):
        chance = random.Random(180)
        for tracks in range(1, 5):
            for rooms in (2, 3, 5, 6):
                for time in range(4):
                    machine = made_up_machine(chance, tracks, rooms)
                    for track in range(tracks):
                        found = dropped(machine, track)
                        self.check_form(found, tracks - 1)
                        for row in made_up_rows(chance, tracks - 1, 12):
                            self.assertIs(takes(found, row), some_way_taken(machine, track, row))

    def test_widened_and_dropped_again(self):
        chance = random.Random(181)
        for machine in machine_list(chance):
            for track in range(machine[0] + 1):
                if machine[0] < 4:
                    self.assertEqual(dropped(widened(machine, track), track), reduced(machine))


class NoWidthTest(ProgramCase):

    def test_met_and_joined_of_unlike_tracks(self):
        chance = random.Random(19)
        for one_tracks, other_tracks in itertools.permutations(range(5), 2):
            for rooms in (1, 3):
                one = made_up_machine(chance, one_tracks, rooms)
                other = made_up_machine(chance, other_tracks, 2)
                for ask in (met, joined):
                    self.check_refused(NoWidth, ask, one, other)

    def test_widened_of_four_tracks(self):
        for track in (-1, 0, 1, 2, 3, 4, 5):
            self.check_refused(NoWidth, widened, (4, ((0,) * 16,), (True,)), track)

    def test_widened_by_a_number_that_is_none(self):
        chance = random.Random(190)
        for tracks in range(4):
            machine = made_up_machine(chance, tracks, 3)
            for track in (-1, -2, tracks + 1, tracks + 2, 10 ** 40, -10 ** 40, 64):
                self.check_refused(NoWidth, widened, machine, track)
            for track in range(tracks + 1):
                self.assertEqual(widened(machine, track)[0], tracks + 1)

    def test_dropped_of_a_number_that_is_none(self):
        chance = random.Random(191)
        for tracks in range(5):
            machine = made_up_machine(chance, tracks, 3)
            for track in (-1, -2, -tracks, tracks, tracks + 1, 10 ** 40, -10 ** 40, 64):
                if track != 0 or tracks == 0:
                    self.check_refused(NoWidth, dropped, machine, track)
            for track in range(tracks):
                self.assertEqual(dropped(machine, track)[0], tracks - 1)

    def test_dropped_of_a_machine_without_tracks(self):
        for machine in ((0, ((0,),), (True,)), ring(3)):
            for track in (-1, 0, 1):
                self.check_refused(NoWidth, dropped, machine, track)


class TooGreatTest(ProgramCase):

    def test_just_a_hundred_pairs(self):
        self.assertEqual(met(ring(4), ring(25)), ring(100))
        self.assertEqual(joined(ring(4), ring(25)), ring(100, [at for at in range(100) if at % 4 == 0 or at % 25 == 0]))
        tailed = ring(10, (0,), 10)
        self.assertEqual(met(ring(9), tailed), pairs_machine(ring(9), tailed, all))
        self.assertEqual(joined(tailed, ring(9)), pairs_machine(ring(9), tailed, any))
        # Two tracks: one counts the letters with track 0, the other those with track 1.
        one = (2, tuple([(at, (at + 1) % 10) * 2 for at in range(10)]), (True,) + (False,) * 9)
        other = (2, tuple([(at, at, (at + 1) % 10, (at + 1) % 10) for at in range(10)]), (True,) + (False,) * 9)
        self.assertEqual(len(met(one, other)[1]), 100)
        self.assertEqual(len(joined(one, other)[1]), 100)

    def test_a_hundred_and_one_pairs(self):
        for ask in (met, joined):
            self.check_refused(TooGreat, ask, ring(4, (0,), 1), ring(25))
            self.check_refused(TooGreat, ask, ring(25), ring(4, (0,), 1))
            self.check_refused(TooGreat, ask, ring(9), ring(10, (0,), 11))
            self.check_refused(TooGreat, ask, ring(10, (0,), 11), ring(9))

    def test_many_more_pairs(self):
        for ask in (met, joined):
            self.check_refused(TooGreat, ask, ring(100), ring(99))
            self.check_refused(TooGreat, ask, ring(11), ring(10))

    def test_pairs_that_are_come_to_count_and_no_others(self):
        self.assertEqual(met(ring(100), ring(100)), ring(100))
        self.assertEqual(joined(ring(100), ring(100, (1,))), ring(100, (0, 1)))
        self.assertEqual(met(ring(100), ring(50)), ring(100))
        ends = [at for at in range(100) if at % 20 == 0 or at % 50 == 0]
        self.assertEqual(joined(ring(20), ring(50)), ring(100, ends))

    def test_it_is_not_the_rooms_of_what_is_told_that_count(self):
        # What would be told has one room; or the machines would have one if they were reduced.
        self.check_refused(TooGreat, met, ring(9, ()), ring(10, (0,), 11))
        self.check_refused(TooGreat, met, ring(9, ()), ring(12, (), 65))
        self.check_refused(TooGreat, joined, ring(9, range(9)), ring(10, (0,), 11))
        self.check_refused(TooGreat, joined, ring(11, ()), ring(10, ()))
        self.check_refused(TooGreat, met, ring(11, range(11)), ring(10, range(10)))
        self.assertEqual(met(ring(9, ()), ring(10, (0,), 10)), (0, ((0,),), (False,)))
        self.assertEqual(joined(ring(9, range(9)), ring(10, (0,), 10)), (0, ((0,),), (True,)))

    def test_just_a_hundred_sets(self):
        # The set of 0 alone, and then ninety-nine of a room of either ring.
        found = dropped(two_rings(9, 11), 0)
        wanted = ring(99, [at for at in range(99) if at % 9 == 0 or at % 11 == 0], 1)
        self.assertEqual(found, reduced(wanted))
        self.assertEqual(len(dropped(two_rings(99, 1), 0)[1]), 2)

    def test_a_hundred_and_one_sets(self):
        self.check_refused(TooGreat, dropped, two_rings(4, 25), 0)
        self.check_refused(TooGreat, dropped, two_rings(25, 4), 0)

    def test_many_more_sets(self):
        self.check_refused(TooGreat, dropped, two_rings(9, 13), 0)
        self.check_refused(TooGreat, dropped, two_rings(49, 50), 0)
        # Whether the seventh letter from the last has the track: which letters had it must all be known.
        ways = [(0, 0, 0, 1)] + [(room + 1,) * 4 for room in range(1, 7)] + [(8,) * 4, (8,) * 4]
        machine = (2, tuple(ways), (False,) * 7 + (True, False))
        self.check_refused(TooGreat, dropped, machine, 0)
        self.check_refused(TooGreat, dropped, machine, 1)

    def test_it_is_not_the_rooms_of_what_is_dropped_that_count(self):
        self.check_refused(TooGreat, dropped, two_rings(4, 25, False), 0)
        self.assertEqual(dropped(two_rings(9, 11, False), 0), (0, ((0,),), (False,)))

    def test_nothing_else_is_too_great(self):
        self.assertEqual(len(flipped(ring(100))[1]), 100)
        self.assertEqual(len(widened(ring(100), 0)[1]), 100)

    def test_no_width_goes_first(self):
        great = ring(10)
        wide = (1, tuple([way * 2 for way in ring(11)[1]]), ring(11)[2])
        for ask in (met, joined):
            self.check_refused(NoWidth, ask, great, wide)
            self.check_refused(NoWidth, ask, wide, great)
            self.check_refused(TooGreat, ask, widened(great, 0), wide)
        for track in (-1, 1, 2, 10 ** 40):
            self.check_refused(NoWidth, dropped, two_rings(4, 25), track)


class UnchangedTest(ProgramCase):

    def test_machines_stay_as_they_were(self):
        chance = random.Random(20)
        one = made_up_machine(chance, 2, 7)
        other = made_up_machine(chance, 2, 6)
        before = copy.deepcopy((one, other))
        asked = ((flipped, one), (met, one, other), (joined, one, other), (widened, one, 1), (dropped, one, 1))
        firsts = [ask[0](*ask[1:]) for ask in asked]
        for ask, first in zip(asked, firsts):
            self.assertEqual(ask[0](*ask[1:]), first)
        self.assertEqual((one, other), before)


if __name__ == "__main__":
    unittest.main()
