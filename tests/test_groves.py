"""Points 25 to 28 and 30: tree machines, what they take, reduced, put together, and their smallest trees."""

import copy
import itertools
import random
import unittest

from setsays.errors import NoWidth, TooGreat
from setsays.groves import (smallest, tree_dropped, tree_flipped, tree_joined, tree_met, tree_reduced, tree_takes)
from tests.tree_helpers import (A_ONE, ALL, EVEN, NOTHING, Great, TreeCase, by_count, come_to, coming_set, count_nodes,
                                dropped_by_sets, every_tree, letters_by_road, machine_of_things, made_up_tree,
                                made_up_tree_machine, met_by_pairs, room_of, tree_of, trees_up_to, with_figure)

# One track: of the letter, then the left room, then the right room another room comes each time.
BY_ALL = (1, (((1, 2, 0), (0, 1, 2), (2, 0, 1)), ((2, 2, 1), (1, 0, 0), (0, 2, 1))), (False, True, False))
# No track, reduced: taken are two nodes of which one is the other's left child, and three that go down to the right.
LEFT_AND_RIGHT = (0, (((1, 2, 3, 4, 4), (3, 4, 4, 4, 4), (4,) * 5, (4,) * 5, (4,) * 5),),
                  (False, False, False, True, False))
# One track, five rooms: dropped, it goes by just thirty sets; by thirty-one.
THIRTY_SETS = (1, (((4, 4, 1, 3, 2), (3, 2, 4, 1, 0), (2, 2, 4, 1, 0), (2, 2, 1, 4, 2), (3, 0, 1, 4, 1)),
                   ((4, 0, 1, 0, 2), (4, 2, 4, 2, 4), (1, 4, 0, 2, 4), (4, 4, 3, 1, 0), (3, 2, 0, 3, 1))),
               (False, True, True, True, True))
MORE_SETS = (1, (((4, 4, 4, 0, 0), (4, 4, 4, 4, 4), (1, 4, 3, 4, 4), (2, 4, 4, 0, 3), (3, 3, 1, 1, 0)),
                 ((4, 1, 4, 3, 4), (4, 1, 1, 1, 4), (1, 1, 4, 4, 4), (2, 4, 4, 1, 0), (3, 4, 4, 4, 2))),
             (False, False, False, False, True))


def machine_list(chance):
    """Tree machines of none to three tracks, of one room and of several."""
    for tracks in range(4):
        for truth in (True, False):
            yield (tracks, (((0,),),) * 2 ** tracks, (truth,))
        for rooms in (2, 3, 5):
            yield made_up_tree_machine(chance, tracks, rooms)


def tried_trees(chance, tracks, count):
    """All trees of two nodes at most, and some of up to two hundred."""
    sizes = [chance.choice((3, 4, 6, 10, 30, 200)) for time in range(count)]
    return trees_up_to(tracks, 2) + [made_up_tree(chance, tracks, nodes) for nodes in sizes]


def with_rooms_mixed(chance, machine):
    """The same with its rooms, but for room 0, called otherwise, and with rooms that are not come to."""
    tracks, ways, ends = machine
    count = len(ends) + 2
    names = [0] + chance.sample(range(1, count), count - 1)
    old = {name: number for number, name in enumerate(names)}
    wide = [[[names[ways[letter][old[left]][old[right]]] if old[left] < len(ends) > old[right]
              else chance.randrange(count) for right in range(count)] for left in range(count)]
            for letter in range(2 ** tracks)]
    return (tracks, tuple([tuple([tuple(rights) for rights in lefts]) for lefts in wide]),
            tuple([ends[old[room]] if old[room] < len(ends) else chance.random() < 0.5 for room in range(count)]))


def doubled(chance, machine):
    """The same with two rooms for each, either of which comes."""
    tracks, ways, ends = machine
    count = len(ends)
    wide = [[[ways[letter][left % count][right % count] + count * chance.randrange(2) for right in range(2 * count)]
             for left in range(2 * count)] for letter in range(2 ** tracks)]
    return (tracks, tuple([tuple([tuple(rights) for rights in lefts]) for lefts in wide]), ends * 2)


def reduced_by_words(machine):
    """Point 26 word by word, the fewest rooms being those that some trees round them tell apart."""
    tracks, ways, ends = machine
    letters = range(2 ** tracks)
    rooms = come_to(tracks, 0, lambda letter, left, right: ways[letter][left][right], len(ends))
    apart = {(one, other) for one in rooms for other in rooms if ends[one] != ends[other]}
    count = -1
    while count != len(apart):
        count = len(apart)
        for one, other in itertools.product(rooms, repeat=2):
            if any((ways[letter][one][third], ways[letter][other][third]) in apart
                   or (ways[letter][third][one], ways[letter][third][other]) in apart
                   for letter in letters for third in rooms):
                apart.add((one, other))
    alike = {one: [other for other in sorted(rooms) if (one, other) not in apart][0] for one in rooms}
    order = [alike[0]]
    most = 0
    while most < len(order):
        for left in range(most + 1):
            for right in range(most + 1):
                if most in (left, right):
                    for letter in letters:
                        room = alike[ways[letter][order[left]][order[right]]]
                        if room not in order:
                            order.append(room)
        most += 1
    return machine_of_things(tracks, order, lambda letter, left, right: alike[ways[letter][left][right]],
                             lambda room: ends[room])


def rooms_by_nodes(machine, most):
    """For each number of nodes, up to the most, the rooms that trees of just so many lead to."""
    found = [{0}]
    while len(found) <= most:
        nodes = len(found)
        found.append({ways[left][right] for ways in machine[1] for count in range(nodes)
                      for left in found[count] for right in found[nodes - 1 - count]})
    return found


def of_sizes(recipes, end):
    """No track: a room for each number of nodes that a recipe makes of two others; all other trees have a last room."""
    sizes = [0] + [left + right + 1 for left, right in recipes]
    numbers = {(sizes.index(left), sizes.index(right)): sizes.index(left + right + 1) for left, right in recipes}
    count = len(sizes) + 1
    ways = [tuple([numbers.get((left, right), count - 1) for right in range(count)]) for left in range(count)]
    return (0, (tuple(ways),), tuple([room < count - 1 and sizes[room] == end for room in range(count)]))


DOUBLINGS = ((0, 0), (1, 1), (3, 3), (7, 7), (15, 15), (31, 31))


class TakesTest(TreeCase):

    def test_by_letter_then_left_room_then_right_room(self):
        # The rooms of 0 and 1 alone are 1 and 2.
        for tree, truth in ((None, False), ((0, None, None), True), ((1, None, None), False),
                            ((0, (0, None, None), None), False), ((0, None, (0, None, None)), False),
                            ((1, (0, None, None), None), True), ((1, None, (0, None, None)), False),
                            ((1, None, (1, None, None)), True), ((1, (1, None, None), None), False),
                            ((0, (0, None, None), (0, None, None)), True),
                            ((0, (0, None, None), (1, None, None)), False),
                            ((0, (1, None, None), (0, None, None)), False),
                            ((1, (1, None, None), (1, None, None)), True)):
            self.assertIs(tree_takes(BY_ALL, tree), truth, tree)

    def test_known_ones(self):
        for tree in trees_up_to(1, 4):
            ones = list(letters_by_road(tree).values()).count(1)
            self.assertIs(tree_takes(EVEN, tree), ones % 2 == 0)
            self.assertIs(tree_takes(A_ONE, tree), ones > 0)
            self.assertIs(tree_takes(ALL, tree), True)
            self.assertIs(tree_takes(NOTHING, tree), False)
        for tree in trees_up_to(0, 5):
            roads = sorted(letters_by_road(tree))
            self.assertIs(tree_takes(LEFT_AND_RIGHT, tree), roads in (["", "l"], ["", "r", "rr"]))

    def test_word_by_word(self):
        chance = random.Random(25)
        for machine in machine_list(chance):
            for tree in tried_trees(chance, machine[0], 20):
                self.assertIs(tree_takes(machine, tree), machine[2][room_of(machine, tree)])

    def test_deep_trees(self):
        for road in ("l" * 59, "r" * 59, "lr" * 30):
            letters = {road[:at]: 1 for at in range(60)}
            self.assertIs(tree_takes(EVEN, tree_of(letters)), True)
            letters[road[:33]] = 0
            self.assertIs(tree_takes(EVEN, tree_of(letters)), False)


class ReducedTest(TreeCase):

    def test_what_is_reduced(self):
        for machine in (ALL, NOTHING, EVEN, A_ONE, LEFT_AND_RIGHT, by_count(0, 5, (2,)), by_count(3, 4, (2, 5)),
                        (0, (((0,),),), (True,)), (3, (((0,),),) * 8, (False,))):
            self.assertEqual(tree_reduced(machine), machine)

    def test_rooms_that_are_not_come_to_and_rooms_that_are_alike(self):
        for end in (True, False):
            self.assertEqual(tree_reduced((1, (((1, 2, 0), (2, 0, 1), (0, 0, 0)),) * 2, (end,) * 3)),
                             ALL if end else NOTHING)
        # Room 1 is not come to.
        self.assertEqual(tree_reduced((1, (((0, 1, 2), (1, 1, 1), (2, 1, 0)), ((2, 1, 0), (1, 1, 1), (0, 1, 2))),
                                       (True, True, False))), EVEN)
        # Come to and alike only when told apart neither on the left nor on the right.
        self.assertEqual(tree_reduced((0, (((1, 2, 2), (2, 2, 2), (2, 2, 2)),), (False, True, True))),
                         (0, (((1, 1), (1, 1)),), (False, True)))
        only_left = (0, (((1, 2, 2), (2, 2, 2), (0, 2, 2)),), (False, True, True))
        self.assertEqual(tree_reduced(only_left), only_left)
        only_right = (0, (((1, 2, 0), (2, 2, 2), (2, 2, 2)),), (False, True, True))
        self.assertEqual(tree_reduced(only_right), only_right)

    def test_left_goes_ahead_of_right_in_the_order(self):
        # (0, 1) comes first, then (1, 0): so the rooms 3 and 2 here change their numbers.
        machine = (0, (((1, 3, 4, 2, 4), (2, 4, 4, 4, 4), (4,) * 5, (4,) * 5, (4,) * 5),),
                   (False, False, True, False, False))
        self.assertEqual(tree_reduced(machine), LEFT_AND_RIGHT)

    def test_letters_go_behind_both_rooms_in_the_order(self):
        # Above room 1: of (0, 1) by 0 and by 1 the rooms 2 and 3, of (1, 0) by 0 and by 1 the rooms 4 and 5.
        rooms = 7

        def machine(numbers):
            # Two nodes in each of four ways, and nothing else from there on.
            ways = [[[6] * rooms for left in range(rooms)] for letter in range(2)]
            ways[0][0][0] = ways[1][0][0] = 1
            for (letter, left, right), number in zip(((0, 0, 1), (1, 0, 1), (0, 1, 0), (1, 1, 0)), numbers):
                ways[letter][left][right] = number
                # Told apart by what comes of them alone.
                ways[0][0][number] = (0, 1, 0, 1)[numbers.index(number)]
                ways[0][number][0] = (0, 0, 1, 1)[numbers.index(number)]
            return (1, tuple([tuple([tuple(rights) for rights in lefts]) for lefts in ways]),
                    (False, True) + (False,) * 5)

        wanted = tree_reduced(machine((2, 3, 4, 5)))
        self.assertEqual(wanted, machine((2, 3, 4, 5)))
        for numbers in itertools.permutations((2, 3, 4, 5)):
            self.assertEqual(tree_reduced(machine(numbers)), wanted)

    def test_the_greater_room_of_both_tells_when_it_is_their_turn(self):
        # (1, 1) goes ahead of (0, 2), though 0 is ahead of 1.
        def machine(of_ones, of_nought_and_two):
            ways = [[5] * 6 for left in range(6)]
            ways[0][0] = 1
            ways[0][1] = 2
            ways[1][0] = 5
            ways[1][1] = of_ones
            ways[0][2] = of_nought_and_two
            return (0, (tuple([tuple(rights) for rights in ways]),),
                    tuple([room == of_nought_and_two for room in range(6)]))

        found = tree_reduced(machine(4, 3))
        self.assertEqual(found, reduced_by_words(machine(3, 4)))
        # 1, 2, then of (1, 0) the last room, with which that of (1, 1) is alike; then that of (0, 2).
        self.assertEqual(found, (0, (((1, 2, 4, 3, 3), (3,) * 5, (3,) * 5, (3,) * 5, (3,) * 5),),
                                 (False, False, False, False, True)))
        unlike = [list(rights) for rights in machine(4, 3)[1][0]]
        unlike[4][4] = 3
        mixed = (0, (tuple([tuple(rights) for rights in unlike]),), machine(4, 3)[2])
        self.assertEqual(tree_reduced(mixed), (0, (((1, 2, 5, 3, 3, 3), (3, 4, 3, 3, 3, 3), (3,) * 6, (3,) * 6,
                                                    (3, 3, 3, 3, 5, 3), (3,) * 6),), (False,) * 5 + (True,)))

    def test_by_words(self):
        chance = random.Random(26)
        for machine in machine_list(chance):
            for mixed in (machine, with_rooms_mixed(chance, machine)):
                found = tree_reduced(mixed)
                self.check_tree_form(found, machine[0])
                self.assertEqual(found, reduced_by_words(mixed))
        for time in range(40):
            machine = made_up_tree_machine(chance, chance.choice((0, 0, 0, 1)), chance.randrange(2, 9))
            found = tree_reduced(machine)
            self.check_tree_form(found, machine[0])
            self.assertEqual(found, reduced_by_words(machine))

    def test_takes_the_same_trees(self):
        chance = random.Random(260)
        for machine in machine_list(chance):
            found = tree_reduced(machine)
            for tree in tried_trees(chance, machine[0], 15):
                self.assertIs(tree_takes(found, tree), tree_takes(machine, tree))

    def test_machines_that_take_the_same_trees(self):
        chance = random.Random(261)
        for time in range(6):
            for machine in machine_list(chance):
                wanted = tree_reduced(machine)
                self.assertEqual(tree_reduced(wanted), wanted)
                self.assertEqual(tree_reduced(with_rooms_mixed(chance, machine)), wanted)
                self.assertEqual(tree_reduced(doubled(chance, machine)), wanted)
                self.assertEqual(tree_reduced(with_rooms_mixed(chance, doubled(chance, machine))), wanted)

    def test_thirty_rooms(self):
        machine = by_count(10, 20, (9, 15))
        self.assertEqual(tree_reduced(machine), machine)
        self.assertEqual(tree_reduced(by_count(0, 30, (1, 7, 13, 19, 25))), by_count(0, 6, (1,)))
        self.assertEqual(tree_reduced(with_rooms_mixed(random.Random(262), by_count(0, 28, (5,)))),
                         by_count(0, 28, (5,)))


class FlippedTest(TreeCase):

    def test_known_ones(self):
        self.assertEqual(tree_flipped(ALL), NOTHING)
        self.assertEqual(tree_flipped(NOTHING), ALL)
        self.assertEqual(tree_flipped(EVEN), EVEN[:2] + ((False, True),))
        self.assertEqual(tree_flipped(doubled(random.Random(1), A_ONE)), A_ONE[:2] + ((True, False),))

    def test_takes_just_what_the_machine_does_not(self):
        chance = random.Random(27)
        for machine in machine_list(chance):
            found = tree_flipped(machine)
            self.check_tree_form(found, machine[0])
            self.assertEqual(tree_flipped(found), tree_reduced(machine))
            for tree in tried_trees(chance, machine[0], 15):
                self.assertIs(tree_takes(found, tree), not tree_takes(machine, tree))

    def test_thirty_rooms(self):
        machine = by_count(0, 30, (4,))
        self.assertEqual(tree_flipped(machine), by_count(0, 30, [room for room in range(30) if room != 4]))


class MetAndJoinedTest(TreeCase):

    def test_known_ones(self):
        # An even number of ones, and at least one.
        self.assertEqual(tree_met(EVEN, A_ONE), (1, (((0, 1, 2), (1, 2, 1), (2, 1, 2)),
                                                     ((1, 2, 1), (2, 1, 2), (1, 2, 1))), (False, False, True)))
        self.assertEqual(tree_joined(EVEN, A_ONE), ALL)
        self.assertEqual(tree_met(tree_flipped(EVEN), A_ONE), tree_flipped(EVEN))
        self.assertEqual(tree_joined(tree_flipped(EVEN), A_ONE), A_ONE)
        self.assertEqual(tree_met(by_count(0, 2, (0,)), by_count(0, 3, (0,))), by_count(0, 6, (0,)))
        self.assertEqual(tree_joined(by_count(0, 2, (0,)), by_count(0, 3, (0,))), by_count(0, 6, (0, 2, 3, 4)))

    def test_with_all_and_with_nothing(self):
        for machine in (ALL, NOTHING, EVEN, A_ONE):
            self.assertEqual(tree_met(machine, ALL), machine)
            self.assertEqual(tree_met(machine, NOTHING), NOTHING)
            self.assertEqual(tree_joined(machine, ALL), ALL)
            self.assertEqual(tree_joined(machine, NOTHING), machine)

    def test_by_trees_and_by_pairs(self):
        chance = random.Random(28)
        for tracks in range(4):
            for one_rooms, other_rooms in ((1, 1), (1, 4), (4, 1), (2, 2), (3, 4), (5, 6)):
                one = made_up_tree_machine(chance, tracks, one_rooms)
                other = made_up_tree_machine(chance, tracks, other_rooms)
                both = tree_met(one, other)
                either = tree_joined(one, other)
                self.check_tree_form(both, tracks)
                self.check_tree_form(either, tracks)
                self.assertEqual(both, met_by_pairs(one, other, all))
                self.assertEqual(either, met_by_pairs(one, other, any))
                for tree in tried_trees(chance, tracks, 10):
                    truths = (tree_takes(one, tree), tree_takes(other, tree))
                    self.assertIs(tree_takes(both, tree), all(truths))
                    self.assertIs(tree_takes(either, tree), any(truths))

    def test_turned_about_and_with_itself(self):
        chance = random.Random(280)
        for tracks in range(4):
            for time in range(5):
                one = made_up_tree_machine(chance, tracks, chance.randrange(1, 6))
                other = made_up_tree_machine(chance, tracks, chance.randrange(1, 7))
                self.assertEqual(tree_met(one, other), tree_met(other, one))
                self.assertEqual(tree_joined(one, other), tree_joined(other, one))
                self.assertEqual(tree_met(one, one), tree_reduced(one))
                self.assertEqual(tree_joined(one, one), tree_reduced(one))
                nothing = (tracks, (((0,),),) * 2 ** tracks, (False,))
                self.assertEqual(tree_met(one, tree_flipped(one)), nothing)
                self.assertEqual(tree_joined(one, tree_flipped(one)), tree_flipped(nothing))


class DroppedTest(TreeCase):

    def test_of_one_track(self):
        self.assertEqual(tree_dropped(ALL, 0), (0, (((0,),),), (True,)))
        self.assertEqual(tree_dropped(NOTHING, 0), (0, (((0,),),), (False,)))
        # Noughts alone will do.
        self.assertEqual(tree_dropped(EVEN, 0), (0, (((0,),),), (True,)))
        # One node at least.
        self.assertEqual(tree_dropped(tree_flipped(EVEN), 0), (0, (((1, 1), (1, 1)),), (False, True)))
        self.assertEqual(tree_dropped(A_ONE, 0), (0, (((1, 1), (1, 1)),), (False, True)))

    def test_by_trees_every_way(self):
        chance = random.Random(29)
        for tracks in range(1, 4):
            for rooms in (1, 2, 4):
                machine = made_up_tree_machine(chance, tracks, rooms)
                for track in range(tracks):
                    found = tree_dropped(machine, track)
                    self.check_tree_form(found, tracks - 1)
                    for tree in trees_up_to(tracks - 1, 3 if tracks < 3 else 2):
                        letters = letters_by_road(tree)
                        wanted = False
                        for way in itertools.product((0, 1), repeat=len(letters)):
                            put_back = {road: with_figure(letters[road], track, figure)
                                        for road, figure in zip(letters, way)}
                            wanted = wanted or tree_takes(machine, tree_of(put_back))
                        self.assertIs(tree_takes(found, tree), wanted, (machine, track, tree))

    def test_by_sets(self):
        chance = random.Random(290)
        told = 0
        while told < 40:
            tracks = chance.randrange(1, 4)
            machine = made_up_tree_machine(chance, tracks, chance.randrange(2, 5))
            track = chance.randrange(tracks)
            found = tree_dropped(machine, track)
            self.check_tree_form(found, tracks - 1)
            self.assertEqual(found, dropped_by_sets(machine, track))
            told += 1

    def test_the_other_tracks_keep_their_order(self):
        # A node alone, whose letter is 3 of three tracks: those of number 0 and 1.
        ways = [((2,) * 3,) * 3] * 8
        ways[3] = ((1, 2, 2), (2, 2, 2), (2, 2, 2))
        machine = (3, tuple(ways), (False, True, False))
        for track, letter in ((0, 1), (1, 1), (2, 3)):
            found = tree_dropped(machine, track)
            for other in range(4):
                self.assertIs(tree_takes(found, (other, None, None)), other == letter)


class NoWidthTest(TreeCase):

    def test_met_and_joined_of_unlike_tracks(self):
        chance = random.Random(30)
        for one_tracks, other_tracks in itertools.permutations(range(4), 2):
            for rooms in (1, 3):
                one = made_up_tree_machine(chance, one_tracks, rooms)
                other = made_up_tree_machine(chance, other_tracks, 2)
                for ask in (tree_met, tree_joined):
                    self.check_refused(NoWidth, ask, one, other)

    def test_dropped_of_a_number_that_is_none(self):
        chance = random.Random(300)
        for tracks in range(4):
            machine = made_up_tree_machine(chance, tracks, 3)
            for track in (-1, -2, -tracks, tracks, tracks + 1, 10 ** 40, -10 ** 40, 64):
                if track != 0 or tracks == 0:
                    self.check_refused(NoWidth, tree_dropped, machine, track)
            for track in range(tracks):
                self.assertEqual(tree_dropped(machine, track)[0], tracks - 1)


class TooGreatTest(TreeCase):

    def test_just_thirty_pairs(self):
        for ask in (tree_met, tree_joined):
            for one, other in ((by_count(0, 5, (0,)), by_count(0, 6, (0,))),
                               (by_count(0, 30, (2,)), by_count(0, 1, ())),
                               (by_count(2, 4, (1,)), by_count(0, 7, (3,))),
                               (by_count(15, 5, ()), by_count(15, 3, ()))):
                self.check_tree_form(ask(one, other), 0)
                self.check_tree_form(ask(other, one), 0)
        self.assertEqual(tree_met(by_count(0, 5, (1,)), by_count(0, 6, (1,))), by_count(0, 30, (1,)))
        self.assertEqual(tree_met(by_count(0, 30, (1, 9)), by_count(0, 30, (9, 11))), by_count(0, 30, (9,)))
        self.assertEqual(len(tree_joined(by_count(0, 5, (1,)), by_count(0, 6, (1,)))[2]), 30)

    def test_thirty_one_and_more_pairs(self):
        for ask in (tree_met, tree_joined):
            for one, other in ((by_count(1, 5, (0,)), by_count(0, 6, (0,))),
                               (by_count(3, 4, (1,)), by_count(0, 7, (3,))),
                               (by_count(0, 5, (0,)), by_count(1, 6, (3,))),
                               (by_count(0, 8, (0,)), by_count(0, 9, (0,))),
                               # Refused though one room would be enough.
                               (by_count(1, 5, ()), by_count(0, 6, ())),
                               (by_count(1, 5, range(6)), by_count(0, 6, range(6)))):
                self.check_refused(TooGreat, ask, one, other)
                self.check_refused(TooGreat, ask, other, one)

    def test_made_up_pairs_of_none_to_three_tracks(self):
        chance = random.Random(311)
        for tracks in range(4):
            counts = {True: 0, False: 0}
            while min(counts.values()) < 4:
                one = made_up_tree_machine(chance, tracks, chance.choice((5, 6)))
                # Thirty rooms at most are come to in pairs of five and six; in others mostly more.
                other = made_up_tree_machine(chance, tracks, chance.choice((5, 6, 7)))
                for ask, end_of in ((tree_met, all), (tree_joined, any)):
                    try:
                        wanted = met_by_pairs(one, other, end_of)
                    except Great:
                        counts[False] += 1
                        self.check_refused(TooGreat, ask, one, other)
                    else:
                        counts[True] += 1
                        self.assertEqual(ask(one, other), wanted)

    def test_what_is_not_come_to_does_not_count(self):
        mixed = with_rooms_mixed(random.Random(31), by_count(0, 5, (0,)))
        self.assertEqual(tree_met(mixed, by_count(0, 6, (0,))), by_count(0, 30, (0,)))

    def count_sets(self, machine, track):
        return len(come_to(machine[0] - 1, frozenset([0]),
                           lambda letter, left, right: coming_set(machine, track, letter, left, right), 60))

    def test_thirty_and_thirty_one_sets(self):
        self.assertEqual(self.count_sets(THIRTY_SETS, 0), 30)
        self.assertEqual(self.count_sets(MORE_SETS, 0), 31)
        for ends in itertools.product((True, False), repeat=5):
            machine = THIRTY_SETS[:2] + (ends,)
            self.assertEqual(tree_dropped(machine, 0), dropped_by_sets(machine, 0))
            # Refused whatever is taken.
            self.check_refused(TooGreat, tree_dropped, MORE_SETS[:2] + (ends,), 0)

    def test_made_up_ones_near_thirty(self):
        chance = random.Random(310)
        counts = {True: 0, False: 0}
        while min(counts.values()) < 15:
            machine = made_up_tree_machine(chance, chance.randrange(1, 4), chance.choice((5, 5, 6)))
            track = chance.randrange(machine[0])
            if self.count_sets(machine, track) < 20:
                continue
            try:
                wanted = dropped_by_sets(machine, track)
            except Great:
                counts[False] += 1
                self.check_refused(TooGreat, tree_dropped, machine, track)
            else:
                counts[True] += 1
                self.assertEqual(tree_dropped(machine, track), wanted)

    def test_no_width_goes_ahead(self):
        wide = tuple([by_count(1, 5, (0,))[1][0]] * 2)
        for ask in (tree_met, tree_joined):
            self.check_refused(NoWidth, ask, (1, wide, (True,) * 6), by_count(0, 6, (0,)))
        for track in (-1, 1, 2):
            self.check_refused(NoWidth, tree_dropped, MORE_SETS, track)

    def test_flipped_and_reduced_are_not_refused(self):
        for machine in (by_count(0, 30, (0,)), by_count(12, 18, (3,)), MORE_SETS):
            self.check_tree_form(tree_flipped(machine), machine[0])
            self.check_tree_form(tree_reduced(machine), machine[0])


class SmallestTest(TreeCase):

    def check_smallest(self, machine, nodes):
        found = smallest(machine)
        self.assertIs(found.__class__, tuple)
        self.assertEqual(found[0], "tree")
        self.assertEqual(len(found), 2)
        self.assertEqual(count_nodes(found[1]), nodes)
        self.assertIs(machine[2][room_of(machine, found[1])], True)

    def test_no_tree(self):
        self.assertIsNone(smallest(NOTHING))
        # Taken would be a tree that comes to room 1 or 2, but none does.
        self.assertIsNone(smallest((1, (((0, 1, 2), (0, 2, 1), (1, 1, 1)),) * 2, (False, True, True))))
        for tracks in range(4):
            self.assertIsNone(smallest((tracks, (((0,),),) * 2 ** tracks, (False,))))

    def test_the_tree_without_nodes(self):
        for machine in (ALL, EVEN, by_count(0, 7, (0, 3)), (0, (((0,),),), (True,))):
            self.assertEqual(smallest(machine), ("none",))

    def test_one_smallest_tree(self):
        self.assertEqual(smallest(A_ONE), ("tree", (1, None, None)))
        self.assertEqual(smallest(LEFT_AND_RIGHT), ("tree", (0, (0, None, None), None)))

    def test_several_nodes(self):
        for nodes in range(1, 30):
            self.check_smallest(by_count(0, 30, (nodes,)), nodes)
            self.check_smallest(by_count(nodes, 1, (nodes,)), nodes)
        self.check_smallest(by_count(3, 20, (5, 9, 22)), 5)

    def test_few_nodes_rather_than_few_steps(self):
        # Two steps up a tree of three nodes comes to the end too, but one of four nodes in a line is smaller.
        line = of_sizes(((0, 0), (0, 1), (0, 2), (0, 3), (1, 1), (3, 3)), 4)
        ends = list(line[2])
        ends[-2] = True
        self.check_smallest((0, line[1], tuple(ends)), 4)
        ends = [room in (len(ends) - 2,) for room in range(len(ends))]
        self.check_smallest((0, line[1], tuple(ends)), 7)

    def test_made_up_ones(self):
        chance = random.Random(32)
        sizes = {}
        for time in range(200):
            machine = made_up_tree_machine(chance, chance.randrange(4), chance.randrange(1, 10))
            rooms = rooms_by_nodes(machine, 12)
            end = chance.choice(list(set().union(*rooms)))
            machine = machine[:2] + (tuple([room == end for room in range(len(machine[2]))]),)
            nodes = [end in some for some in rooms].index(True)
            sizes[nodes] = sizes.get(nodes, 0) + 1
            if nodes == 0:
                self.assertEqual(smallest(machine), ("none",))
            else:
                self.check_smallest(machine, nodes)
        self.assertGreater(len(sizes), 4)

    def test_a_hundred_nodes_and_more(self):
        self.check_smallest(of_sizes(DOUBLINGS + ((3, 0), (31, 4), (63, 36)), 100), 100)
        self.check_smallest(of_sizes(DOUBLINGS + ((3, 1), (31, 3), (63, 35)), 99), 99)
        for recipes, nodes in ((DOUBLINGS + ((3, 1), (31, 5), (63, 37)), 101), (DOUBLINGS + ((63, 63),), 127),
                               (DOUBLINGS + ((63, 63), (127, 127)), 255)):
            self.check_refused(TooGreat, smallest, of_sizes(recipes, nodes))

    def test_very_many_nodes(self):
        recipes = [(2 ** power - 1, 2 ** power - 1) for power in range(28)]
        self.check_refused(TooGreat, smallest, of_sizes(recipes, 2 ** 28 - 1))
        # A smaller one is told all the same; and none where the end is not come to.
        self.check_smallest(of_sizes(recipes, 63), 63)
        self.assertIsNone(smallest(of_sizes(recipes, -1)))

    def test_a_line(self):
        self.check_smallest(of_sizes([(0, nodes) for nodes in range(28)], 28), 28)


class UnchangedTest(TreeCase):

    def test_machines_and_trees_stay_as_they_were(self):
        chance = random.Random(33)
        for machine in machine_list(chance):
            tree = made_up_tree(chance, machine[0], 9)
            other = made_up_tree_machine(chance, machine[0], 3)
            before = copy.deepcopy((machine, other, tree))
            asks = [lambda: tree_takes(machine, tree), lambda: tree_reduced(machine), lambda: tree_flipped(machine),
                    lambda: tree_met(machine, other), lambda: tree_joined(machine, other), lambda: smallest(machine)]
            if machine[0] > 0:
                asks.append(lambda: tree_dropped(other, 0))
            answers = [ask() for ask in asks]
            self.assertEqual((machine, other, tree), before)
            self.assertEqual([ask() for ask in reversed(asks)], list(reversed(answers)))

    def test_every_tree_of_so_many_nodes_is_there(self):
        self.assertEqual([len(every_tree(0, nodes)) for nodes in range(6)], [1, 1, 2, 5, 14, 42])
        self.assertEqual(len(set(every_tree(1, 3))), 5 * 8)


if __name__ == "__main__":
    unittest.main()
