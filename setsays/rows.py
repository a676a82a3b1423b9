"""Rows of a frame: which fit it, and for which a saying holds."""

from setsays.errors import NoRow
from setsays.leftovers import Leftovers
from setsays.names import is_place
from setsays.sayings import check_let
from setsays.wholes import is_below


def is_letter(thing, tracks):
    """Whether the thing is a letter of so many tracks."""
    return is_below(thing, 1 << tracks)


def check_row(frame, row):
    """Refuses what is no row of the frame."""
    if not isinstance(row, list) or not all([is_letter(thing, len(frame)) for thing in row]):
        raise NoRow("a thing of the row is no letter of the frame's tracks")


def count_with(letters, track):
    """How many of the letters have the track."""
    return sum([(letter >> track) & 1 for letter in letters])


def each_place_once(frame, letters):
    """Whether for each name of a place in the frame just one of the letters has its track."""
    return all([count_with(letters, track) == 1 for track, name in enumerate(frame) if is_place(name)])


def fits(frame, row):
    """Whether for each name of a place in the frame just one letter of the row has its track."""
    check_row(frame, row)
    return each_place_once(frame, row)


def holds_by(saying, frame, row):
    """Whether a saying that is let in the frame holds by a row that fits it."""
    leftovers = Leftovers()
    left = leftovers.of_saying(saying, frame)
    for letter in row:
        left = leftovers.behind(left, letter)
    return leftovers.at_end(left)


def holds(saying, frame, row):
    """Whether the row fits the frame and the saying holds by it."""
    check_let(saying, frame)
    return fits(frame, row) and holds_by(saying, frame, row)
