"""The tree machines of frames and of sayings, built of those of their parts, and the verdicts on sayings."""

from setsays.groves import smallest, tree_dropped, tree_flipped, tree_joined, tree_met
from setsays.joins import letter_of
from setsays.making import maker
from setsays.marks import HOW_MANY, holds_with, mark_of
from setsays.names import is_place
from setsays.sayings import check_tree_frame, check_tree_let

# One track: just one node's letter has it.
JUST_ONE_NODE = (1, (((0, 1, 2), (1, 2, 2), (2, 2, 2)), ((1, 2, 2), (2, 2, 2), (2, 2, 2))), (False, True, False))
# No track: all trees.
ANY_TREE = (0, (((0,),),), (True,))


def tree_spread(machine, tracks, width):
    """The tree machine of so many tracks that goes as the machine does by what it sees on these tracks."""
    ways = [machine[1][letter_of(letter, tracks)] for letter in range(1 << width)]
    return (width, tuple(ways), machine[2])


def tree_fitting_of(frame):
    """The tree machine of the trees that fit a frame."""
    machine = tree_spread(ANY_TREE, [], len(frame))
    for track, name in enumerate(frame):
        if is_place(name):
            machine = tree_met(machine, tree_spread(JUST_ONE_NODE, [track], len(frame)))
    return machine


def tree_fitting(frame):
    """The tree machine, reduced, that takes the trees that fit the frame."""
    check_tree_frame(frame)
    return tree_fitting_of(frame)


def marks_above(word, letter, left):
    """The marks of a bare saying above a left mark and each right one; the letter is of its two names alone."""
    return tuple([mark_of(word, (letter & 1) != 0, (letter & 2) != 0, left, right) for right in range(HOW_MANY)])


def tree_rule_of(word):
    """The tree machine of two tracks, its rooms marks, that knows of trees that fit whether a bare saying holds."""
    ways = []
    for letter in range(4):
        ways.append(tuple([marks_above(word, letter, left) for left in range(HOW_MANY)]))
    return (2, tuple(ways), tuple([holds_with(word, mark) for mark in range(HOW_MANY)]))


def tree_bare_of(saying, frame):
    """The tree machine of a bare saying."""
    tracks = [frame.index(name) for name in saying[1:]]
    return tree_met(tree_spread(tree_rule_of(saying[0]), tracks, len(frame)), tree_fitting_of(frame))


def tree_built(saying, frame):
    """The tree machine, reduced, that takes the trees for which the saying holds in the frame."""
    check_tree_let(saying, frame)
    machine_of = maker(tree_bare_of, tree_fitting_of, tree_met, tree_joined, tree_flipped, tree_dropped)
    return machine_of(saying, frame)


def tree_verdict(saying, frame):
    """Whether the saying holds for each tree that fits: if not, with a smallest tree for which it doesn't."""
    machine = tree_built(saying, frame)
    found = smallest(tree_met(tree_fitting(frame), tree_flipped(machine)))
    if found is None:
        return ("yes",)
    return ("no", None if found == ("none",) else found[1])
