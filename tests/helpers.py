"""What several tests need: rows, machines and sayings made up, and a check of what is refused."""

import copy
import itertools
import unittest

from setsays import errors
from setsays.errors import SayError
from setsays.machines import reduced

REFUSALS = ("NoText", "NoFrame", "NoSaying", "NoRow", "NoTree", "NoWidth", "NoNumber", "TooGreat", "NoLine")

NO_FRAMES = (
    None, True, 0, "x", "", (), ("x", "X"), {}, {"x": 0}, ["x", "x"], ["x", "X", "y", "Y", "z"], ["x", None], ["xy"],
    [["x"]], [1], [True], [{}], ["x1234", "X"], [""], ["x "], ["in"], object(), 10 ** 40, [("x",)], range(0),
)

# Machines of one track: all rows; none; those with an even number of ones; with a one; that end with 1, 0.
ALL = (1, ((0, 0),), (True,))
NOTHING = (1, ((0, 0),), (False,))
EVEN = (1, ((0, 1), (1, 0)), (True, False))
A_ONE = (1, ((0, 1), (1, 1)), (False, True))
ENDS_ONE_NOUGHT = (1, ((0, 1), (2, 1), (0, 1)), (False, False, True))

# Sayings that need more than a hundred pairs, or sets, somewhere: by some, by and, by and of bare ones alone.
GREAT = (
    (["X"], "some Y (((all x all y (not x next y or (x in X or y in Y)) or all x all y (not x next y or (not x in Y or "
            "not y in Y))) and some x some y (x next y and (not x in Y and not y in Y))) and some x some y (x next y "
            "and (not x in Y and y in X)))"),
    (["x", "y", "X"], "(((((not y in X or some w (x next w and w in X)) and (not some w (w next y and w in X) or x in X"
                      ")) and ((not some w (w next x and not w in X) or not some w (y next w and w in X)) and (some w "
                      "(y ahead w and not w in X) and some w w in X))) or some w (y next w and w next x)) and some w "
                      "(w ahead y and not w in X))"),
    (["x", "y", "z", "w"], "(((((((((not y next w and not w next x) or z next y) and ((not x next y or z next w) and "
                           "not w next z)) or z next x) and not y next z) or x next w) and not w next y) or x same z) "
                           "and ((((((((x next w or z next x) or (z next w or w next y)) or (x next z or y next x)) or "
                           "y next z) and not w next z) and not x next y) or x same y) or z next w))"),
)


def rows_of(tracks, length):
    """All rows of this length, in the order of lists."""
    return [list(row) for row in itertools.product(range(2 ** tracks), repeat=length)]


def every_row(tracks, most):
    """All rows of so many letters at most: the shorter first, and of one length in the order of lists."""
    for length in range(most + 1):
        yield from rows_of(tracks, length)


def made_up_machine(chance, tracks, rooms):
    ways = [tuple([chance.randrange(rooms) for letter in range(2 ** tracks)]) for room in range(rooms)]
    return (tracks, tuple(ways), tuple([chance.random() < 0.5 for room in range(rooms)]))


def of_right_kinds(machine):
    tracks, ways, ends = machine
    return (machine.__class__ is tuple and tracks.__class__ is int
            and ways.__class__ is tuple and ends.__class__ is tuple
            and all(way.__class__ is tuple and len(way) == 2 ** tracks for way in ways)
            and all(room.__class__ is int and 0 <= room < len(ways) for way in ways for room in way)
            and len(ends) == len(ways) >= 1 and all(end.__class__ is bool for end in ends))


def made_up_bare(chance, known, relations):
    places = [name for name in known if name[0].islower()]
    sets = [name for name in known if name[0].isupper()]
    words = ["same"] * bool(places) + list(relations) * bool(places)
    words += ["within"] * bool(sets) + ["in", "in"] * bool(places and sets)
    word = chance.choice(words)
    kinds = {"in": (places, sets), "within": (sets, sets)}.get(word, (places, places))
    return (word, chance.choice(kinds[0]), chance.choice(kinds[1]))


def made_up_saying(chance, known, deepest, relations=("ahead", "next"), most=4):
    """A saying where these names are known, somewhat deeper than told where none is; for rows if not told otherwise."""
    way = chance.random()
    if known and (deepest <= 1 or way < 0.2):
        return made_up_bare(chance, known, relations)
    if known and way < 0.35:
        return ("not", made_up_saying(chance, known, deepest - 1, relations, most))
    if known and (way < 0.65 or len(known) == most):
        both = [made_up_saying(chance, known, deepest - 1, relations, most) for inner in range(2)]
        return (chance.choice(("and", "or")), both[0], both[1])
    name = chance.choice([name for name in ("x", "y", "z", "X", "Y", "Z") if name not in known])
    return (chance.choice(("some", "all")), name,
            made_up_saying(chance, known + [name], deepest - 1, relations, most))


class ProgramCase(unittest.TestCase):

    def check_form(self, machine, tracks):
        """The machine is of so many tracks, of the right kinds all through, and reduced."""
        self.assertEqual(machine[0], tracks)
        self.assertTrue(of_right_kinds(machine), machine)
        self.assertEqual(reduced(machine), machine)

    def check_refused(self, error, ask, *things):
        """It is refused with this error and none of the others, and what is handed in stays as it was."""
        before = copy.deepcopy([thing for thing in things if thing.__class__ is not object])
        with self.subTest(ask=ask.__name__, things=repr(things)[-100:]):
            with self.assertRaises(error) as caught:
                ask(*things)
            self.assertIsInstance(caught.exception, SayError)
            self.assertIsInstance(caught.exception, ValueError)
            for name in REFUSALS:
                if name != error.__name__:
                    self.assertNotIsInstance(caught.exception, getattr(errors, name))
            self.assertEqual([thing for thing in things if thing.__class__ is not object], before)
