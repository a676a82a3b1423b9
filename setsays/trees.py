"""Trees of a frame: which fit it, and for which a saying holds."""

from setsays.errors import NoTree
from setsays.rows import each_place_once, is_letter
from setsays.sayings import check_tree_let
from setsays.standings import Standings


def letters_of(tree):
    """The letters of all nodes of a tree."""
    letters = []
    left = [tree]
    while left:
        here = left.pop()
        if here is not None:
            if not isinstance(here, tuple) or len(here) != 3:
                raise NoTree("what is handed in as a tree is none")
            letters.append(here[0])
            left.extend(here[1:])
    return letters


def gone_up(tree, first, coming):
    """What comes of a tree: the first of the one without nodes; coming, by a letter, above what comes of both sides."""
    if tree is None:
        return first
    return coming(tree[0], gone_up(tree[1], first, coming), gone_up(tree[2], first, coming))


def tree_fits(frame, tree):
    """Whether for each name of a place in the frame just one node's letter has its track."""
    letters = letters_of(tree)
    if not all([is_letter(letter, len(frame)) for letter in letters]):
        raise NoTree("a letter of the tree is none of the frame's tracks")
    return each_place_once(frame, letters)


def tree_holds_by(saying, frame, tree):
    """Whether a saying that is let in the frame for trees holds by a tree that fits it."""
    standings = Standings()
    part = standings.part_of(saying, frame)

    def coming(letter, left, right):
        return standings.above(part, letter, left, right)

    return standings.with_whole(part, gone_up(tree, standings.of_nothing(part), coming))


def tree_holds(saying, frame, tree):
    """Whether the tree fits the frame and the saying holds by it."""
    check_tree_let(saying, frame)
    return tree_fits(frame, tree) and tree_holds_by(saying, frame, tree)
