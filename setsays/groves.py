"""Tree machines: what they take, their least form, put together, and asked for a smallest tree."""

from setsays.errors import NoWidth, TooGreat
from setsays.joins import both_letters
from setsays.machines import numbered, renamed, sorts_by
from setsays.trees import gone_up
from setsays.wholes import is_below

MOST_TREE_COME_TO = 30
MOST_NODES = 100


def tree_takes(machine, tree):
    """Whether the tree machine takes the tree."""
    return machine[2][gone_up(tree, 0, lambda letter, left, right: machine[1][letter][left][right])]


def pairs_up_to(most):
    """The pairs of numbers up to this one of which one at least is it, in order."""
    return [(left, most) for left in range(most)] + [(most, right) for right in range(most + 1)]


def ways_of(comings, count, letter):
    """The ways of a letter, of so many rooms: comings has for each pair of rooms the rooms that come by each letter."""
    ways = []
    for left in range(count):
        ways.append(tuple([comings[(left, right)][letter] for right in range(count)]))
    return tuple(ways)


def tree_explored(tracks, comings, first, is_end, most):
    """The tree machine whose rooms are the things come to from the first, in order: no more than so many.

    Above each two things come, by each letter, the things of their comings.
    """
    numbers = {first: 0}
    found = [first]
    known = {}
    at = 0
    while at < len(found):
        for pair in pairs_up_to(at):
            coming_here = comings(found[pair[0]], found[pair[1]])
            for thing in coming_here:
                if thing not in numbers:
                    numbers[thing] = len(found)
                    found.append(thing)
            if len(found) > most:
                raise TooGreat("more than thirty unlike pairs or sets of rooms are come to")
            known[pair] = renamed(coming_here, numbers)
        at += 1
    ways = [ways_of(known, len(found), letter) for letter in range(1 << tracks)]
    return (tracks, tuple(ways), tuple([is_end(thing) for thing in found]))


def tree_mark(machine, room, sorts):
    """The sorts of a room and of what comes, by each letter, of it on the left and of it on the right."""
    mark = (sorts[room],)
    for ways in machine[1]:
        mark += renamed(ways[room], sorts) + tuple([sorts[rights[room]] for rights in ways])
    return mark


def tree_finer_sorts(machine, sorts):
    """The sorts parted further: two rooms stay of one sort where rooms of one sort come of both everywhere, too."""
    return numbered([tree_mark(machine, room, sorts) for room in range(len(sorts))])


def tree_least(machine):
    """The reduced one of a tree machine whose rooms are all come to and numbered in the order in which they are."""
    sorts = sorts_by(machine[2], lambda coarser: tree_finer_sorts(machine, coarser))
    # A sort is come to when the first of its rooms is: so the sorts, as they are numbered, are in order already.
    firsts = [sorts.index(sort) for sort in range(max(sorts) + 1)]
    comings = []
    for ways in machine[1]:
        comings.append(tuple([renamed(renamed(firsts, ways[left]), sorts) for left in firsts]))
    return (machine[0], tuple(comings), renamed(firsts, machine[2]))


def tree_reduced(machine):
    """The tree machine of the fewest rooms that takes the same trees, its rooms in the order they are come to."""

    def comings(left, right):
        return [ways[left][right] for ways in machine[1]]

    rooms = len(machine[2])
    return tree_least(tree_explored(machine[0], comings, 0, lambda room: machine[2][room], rooms))


def tree_paired(one, other, is_end):
    """The tree machine, reduced, that goes by pairs of rooms; whether one is an end is told by the truths of both."""
    if one[0] != other[0]:
        raise NoWidth("the machines' tracks are not as many")

    def comings(left, right):
        firsts = [ways[left[0]][right[0]] for ways in one[1]]
        return list(zip(firsts, [ways[left[1]][right[1]] for ways in other[1]]))

    def is_end_pair(pair):
        return is_end(one[2][pair[0]], other[2][pair[1]])

    return tree_least(tree_explored(one[0], comings, (0, 0), is_end_pair, MOST_TREE_COME_TO))


def tree_flipped(machine):
    """The tree machine, reduced, that takes just the trees that the machine doesn't take."""
    return tree_reduced((machine[0], machine[1], tuple([not end for end in machine[2]])))


def tree_met(one, other):
    """The tree machine, reduced, that takes the trees that both take."""
    return tree_paired(one, other, lambda first, second: first and second)


def tree_joined(one, other):
    """The tree machine, reduced, that takes the trees that one of both takes, or both."""
    return tree_paired(one, other, lambda first, second: first or second)


def rooms_above(machine, letters, lefts, rights):
    """The rooms that come by one of these letters of a room of each, each once and rising."""
    found = []
    for letter in letters:
        for left in lefts:
            found.extend(renamed(rights, machine[1][letter][left]))
    return tuple(sorted(set(found)))


def tree_dropped(machine, track):
    """The tree machine, reduced, that takes a tree where by some way of putting the track into it the machine does."""
    if not is_below(track, machine[0]):
        raise NoWidth("the machine has no track of this number")
    letters = [both_letters(letter, track) for letter in range(1 << (machine[0] - 1))]

    def comings(lefts, rights):
        return [rooms_above(machine, both, lefts, rights) for both in letters]

    def is_end(rooms):
        return any(renamed(rooms, machine[2]))

    return tree_least(tree_explored(machine[0] - 1, comings, (0,), is_end, MOST_TREE_COME_TO))


def steps_beyond(machine, least):
    """The steps above two known rooms to one that isn't: first how many nodes the tree has then, then the room."""
    steps = []
    for left in least:
        for right in least:
            nodes = 1 + least[left][0] + least[right][0]
            for letter, ways in enumerate(machine[1]):
                if ways[left][right] not in least:
                    steps.append((nodes, ways[left][right], letter, left, right))
    return steps


def least_trees(machine):
    """For each room that is come to how many nodes a smallest tree has that leads there, and one: the smaller first."""
    least = {0: (0, None)}
    steps = steps_beyond(machine, least)
    while steps:
        # No smaller tree leads to any room that isn't known yet: it would be made of trees that are known already.
        step = min(steps)
        least[step[1]] = (step[0], (step[2], least[step[3]][1], least[step[4]][1]))
        steps = steps_beyond(machine, least)
    return least


def smallest(machine):
    """A smallest tree that the machine takes: ("tree", tree), or ("none",) without nodes; None where there is none."""
    least = least_trees(machine)
    taken = [least[room] for room in least if machine[2][room]]
    if not taken:
        return None
    if taken[0][0] > MOST_NODES:
        raise TooGreat("the smallest tree has more than a hundred nodes")
    return ("none",) if taken[0][1] is None else ("tree", taken[0][1])
