"""What several tests of trees need: trees, tree machines and sayings made up, and second makings of what is told."""

import itertools

from setsays.groves import tree_reduced
from tests.helpers import ProgramCase, made_up_saying

FRAMES = (
    [], ["x"], ["X"], ["x", "y"], ["x", "X"], ["X", "x"], ["X", "Y"], ["x", "y", "X"], ["X", "y", "x"], ["X", "x", "Y"],
    ["X", "Y", "Z"], ["z", "y", "x"],
)
FOUR_NAMES = (["x", "y", "z", "w"], ["X", "Y", "Z", "W"], ["x", "X", "y", "Y"])

# A saying whose tree machine is told, but that of the trees that fit and for which it doesn't hold is too great.
VERDICT_GREAT = (["x", "y", "z"], "(not ((not ((x left y or (not x left z and z left y)) or (x right z or y right x)) "
                                  "or y left x) and (not z right x or y above x)) or (y left z and not x above y))")
# Sayings that need more than thirty pairs, or sets, at their first word.
TREE_GREAT = (
    (["x", "y", "z"], "(((x above z or (not z left y and (z left x or not y right z))) and ((not x right z and "
                      "not x left y) and not y left z)) and not z right x)"),
    (["x", "y", "z"], "(((y left z or y right x) or ((x right z and not y above x) or z left x)) or "
                      "(z right y or x right y))"),
    (["x", "y", "z"], "not " + VERDICT_GREAT[1]),
    ([], "some X (not some x some y (x right y and (x in X and not y in X)) or (not some x some y (x above y and "
         "(x in X and y in X)) or not some x some y (x left y and (x in X and not y in X))))"),
    ([], "all X (some x some y (x right y and (x in X and not y in X)) and (some x some y (x above y and "
         "(x in X and y in X)) and some x some y (x left y and (x in X and not y in X))))"),
    (["X"], "((some x some y (x right y and (x in X and y in X)) and not some x some y (x left y and (not x in X and "
            "y in X))) and (some x some y (x above y and (not x in X and not y in X)) and (some x some y (x right y "
            "and (x in X and not y in X)) and some x some y (x above y and (not x in X and y in X)))))"),
)

# Tree machines of one track: all trees; none; those with an even number of ones; with a one.
ALL = (1, (((0,),), ((0,),)), (True,))
NOTHING = (1, (((0,),), ((0,),)), (False,))
EVEN = (1, (((0, 1), (1, 0)), ((1, 0), (0, 1))), (True, False))
A_ONE = (1, (((0, 1), (1, 1)), ((1, 1), (1, 1))), (False, True))


def every_tree(tracks, nodes):
    """All trees of just so many nodes."""
    if nodes == 0:
        return [None]
    found = []
    for count in range(nodes):
        sides = itertools.product(every_tree(tracks, count), every_tree(tracks, nodes - 1 - count))
        found += [(letter, left, right) for left, right in sides for letter in range(2 ** tracks)]
    return found


def trees_up_to(tracks, most):
    """All trees of so many nodes at most, the smaller ones first."""
    return [tree for nodes in range(most + 1) for tree in every_tree(tracks, nodes)]


def letters_by_road(tree, road=""):
    """For each node's road, the top's first, its letter."""
    if tree is None:
        return {}
    letters = {road: tree[0]}
    letters.update(letters_by_road(tree[1], road + "l"))
    letters.update(letters_by_road(tree[2], road + "r"))
    return letters


def count_nodes(tree):
    return len(letters_by_road(tree))


def tree_of(letters, road=""):
    """The tree whose nodes have these letters by their roads."""
    if road not in letters:
        return None
    return (letters[road], tree_of(letters, road + "l"), tree_of(letters, road + "r"))


def made_up_tree(chance, tracks, nodes):
    if nodes == 0:
        return None
    count = chance.choice((0, nodes - 1, chance.randrange(nodes), chance.randrange(nodes), (nodes - 1) // 2))
    return (chance.randrange(2 ** tracks), made_up_tree(chance, tracks, count),
            made_up_tree(chance, tracks, nodes - 1 - count))


def fitted_tree(chance, frame, nodes):
    """A tree of so many nodes that fits the frame, if it has a node at all or the frame needs none."""
    letters = letters_by_road(made_up_tree(chance, len(frame), nodes))
    for track, name in enumerate(frame):
        if name[0].islower() and nodes > 0:
            letters = {road: letter & ~(2 ** track) for road, letter in letters.items()}
            letters[chance.choice(list(letters))] |= 2 ** track
    return tree_of(letters)


def fits_by_roads(frame, letters):
    """Point 9, of trees: for each name of a place just one letter has its track."""
    for track, name in enumerate(frame):
        if name[0].islower() and [letter // 2 ** track % 2 for letter in letters.values()].count(1) != 1:
            return False
    return True


def made_up_tree_saying(chance, known, deepest):
    return made_up_saying(chance, known, deepest, ("left", "right", "above"), 3)


def made_up_tree_machine(chance, tracks, rooms):
    ways = [[[chance.randrange(rooms) for right in range(rooms)] for left in range(rooms)]
            for letter in range(2 ** tracks)]
    return (tracks, tuple([tuple([tuple(rights) for rights in lefts]) for lefts in ways]),
            tuple([chance.random() < 0.5 for room in range(rooms)]))


def by_count(tail, length, ends):
    """No track: the rooms tell how many nodes there are, those from the tail on only up to multiples of the length."""
    rooms = tail + length

    def room_of(count):
        return count if count < rooms else tail + (count - tail) % length

    ways = [tuple([room_of(left + right + 1) for right in range(rooms)]) for left in range(rooms)]
    return (0, (tuple(ways),), tuple([room in ends for room in range(rooms)]))


def room_of(machine, tree):
    """Point 25 word by word."""
    if tree is None:
        return 0
    return machine[1][tree[0]][room_of(machine, tree[1])][room_of(machine, tree[2])]


def come_to(tracks, first, coming, most):
    """All things that are come to from the first, up to a few more than so many; by coming(letter, left, right)."""
    found = [first]
    at = 0
    while at < len(found) <= most:
        for other in range(at + 1):
            for left, right in ((found[at], found[other]), (found[other], found[at])):
                for letter in range(2 ** tracks):
                    thing = coming(letter, left, right)
                    if thing not in found:
                        found.append(thing)
        at += 1
    return found


def machine_of_things(tracks, things, coming, is_end):
    ways = [tuple([tuple([things.index(coming(letter, left, right)) for right in things]) for left in things])
            for letter in range(2 ** tracks)]
    return (tracks, tuple(ways), tuple([is_end(thing) for thing in things]))


def with_figure(letter, track, figure):
    """The letter with one track more, of this number, in or not."""
    return letter // 2 ** track * 2 ** (track + 1) + figure * 2 ** track + letter % 2 ** track


class Great(Exception):
    """More than thirty things are come to."""


def told_of(tracks, first, coming, is_end):
    things = come_to(tracks, first, coming, 30)
    if len(things) > 30:
        raise Great
    return tree_reduced(machine_of_things(tracks, things, coming, is_end))


def met_by_pairs(one, other, end_of):
    """The met machine (end_of being all) or the joined one (any), by pairs of rooms."""
    def coming(letter, left, right):
        return (one[1][letter][left[0]][right[0]], other[1][letter][left[1]][right[1]])
    return told_of(one[0], (0, 0), coming, lambda pair: end_of((one[2][pair[0]], other[2][pair[1]])))


def coming_set(machine, track, letter, left, right):
    """The set of rooms that a letter without the track leads to above two sets."""
    return frozenset(machine[1][with_figure(letter, track, figure)][one][other]
                     for figure in (0, 1) for one in left for other in right)


def dropped_by_sets(machine, track):
    """The dropped machine, by sets of rooms."""
    return told_of(machine[0] - 1, frozenset([0]),
                   lambda letter, left, right: coming_set(machine, track, letter, left, right),
                   lambda rooms: any(machine[2][room] for room in rooms))


def of_right_tree_kinds(machine):
    tracks, ways, ends = machine
    lefts = [left for letter in ways for left in letter]
    rooms = [room for left in lefts for room in left]
    return (machine.__class__ is tuple and tracks.__class__ is int
            and all(part.__class__ is tuple for part in (ways, ends) + tuple(ways) + tuple(lefts))
            and len(ways) == 2 ** tracks and len(ends) >= 1
            and all(len(part) == len(ends) for part in tuple(ways) + tuple(lefts))
            and all(room.__class__ is int and 0 <= room < len(ends) for room in rooms)
            and all(end.__class__ is bool for end in ends))


class TreeCase(ProgramCase):

    def check_tree_form(self, machine, tracks):
        """The tree machine is of so many tracks, of the right kinds all through, and reduced."""
        self.assertEqual(machine[0], tracks)
        self.assertTrue(of_right_tree_kinds(machine), machine)
        self.assertEqual(tree_reduced(machine), machine)
