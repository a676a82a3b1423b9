"""The machines of frames and of sayings: built of those of their parts."""

from setsays.joins import dropped, flipped, joined, met, spread
from setsays.making import maker
from setsays.names import is_place
from setsays.sayings import check_frame, check_let

# Machines that see two tracks alone, those of both names in order. They need to be right of rows that fit only.
# Each letter that has the first track has the second.
EACH_IN = (2, ((0, 1, 0, 0), (1, 1, 1, 1)), (True, False))
# The first track comes, and the second neither ahead of it nor with it.
COMES_AHEAD = (2, ((0, 1, 2, 2), (1, 1, 1, 1), (2, 2, 2, 2)), (False, True, False))
# Likewise, and the second comes by the very next letter.
COMES_NEXT = (2, ((0, 1, 3, 3), (3, 3, 2, 2), (2, 2, 2, 2), (3, 3, 3, 3)), (False, False, True, False))
# One track: just one letter has it.
JUST_ONCE = (1, ((0, 1), (1, 2), (2, 2)), (False, True, False))
# No track: all rows.
ANY_ROW = (0, ((0,),), (True,))


def fitting_of(frame):
    """The machine of the rows that fit a frame."""
    machine = spread(ANY_ROW, [], len(frame))
    for track, name in enumerate(frame):
        if is_place(name):
            machine = met(machine, spread(JUST_ONCE, [track], len(frame)))
    return machine


def fitting(frame):
    """The machine, reduced, that takes the rows that fit the frame."""
    check_frame(frame)
    return fitting_of(frame)


def rule_of(word):
    """The machine that knows of rows that fit whether a bare saying of this word holds."""
    if word == "ahead":
        return COMES_AHEAD
    if word == "next":
        return COMES_NEXT
    # Of rows that fit, in, same and within say the same of the tracks of both names.
    return EACH_IN


def bare_of(saying, frame):
    """The machine of a bare saying."""
    tracks = [frame.index(name) for name in saying[1:]]
    return met(spread(rule_of(saying[0]), tracks, len(frame)), fitting_of(frame))


def built(saying, frame):
    """The machine, reduced, that takes the rows for which the saying holds in the frame."""
    check_let(saying, frame)
    machine_of = maker(bare_of, fitting_of, met, joined, flipped, dropped)
    return machine_of(saying, frame)
