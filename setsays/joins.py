"""Machines put together: flipped, met, joined, widened by a track, and with a track dropped."""

from setsays.errors import NoWidth, TooGreat
from setsays.machines import reduced, renamed
from setsays.wholes import is_below

MOST_TRACKS = 4
MOST_COME_TO = 100


def explored(tracks, first, comings, is_end):
    """The machine, reduced, whose rooms are the things come to from the first: by each letter one of its comings."""
    numbers = {first: 0}
    found = [first]
    ways = []
    while len(ways) < len(found):
        coming_here = comings(found[len(ways)])
        for thing in coming_here:
            if thing not in numbers:
                numbers[thing] = len(found)
                found.append(thing)
        # Told as soon as it is so: of a hundred rooms more sets may come than could ever be walked.
        if len(found) > MOST_COME_TO:
            raise TooGreat("more than a hundred unlike pairs or sets of rooms are come to")
        ways.append(renamed(coming_here, numbers))
    return reduced((tracks, tuple(ways), tuple([is_end(thing) for thing in found])))


def paired(one, other, is_end):
    """The machine, reduced, that goes by pairs of rooms; whether one is an end is told by the truths of both."""
    if one[0] != other[0]:
        raise NoWidth("the machines' tracks are not as many")

    def comings(pair):
        return list(zip(one[1][pair[0]], other[1][pair[1]]))

    return explored(one[0], (0, 0), comings, lambda pair: is_end(one[2][pair[0]], other[2][pair[1]]))


def flipped(machine):
    """The machine, reduced, that takes just the rows that the machine doesn't take."""
    return reduced((machine[0], machine[1], tuple([not end for end in machine[2]])))


def met(one, other):
    """The machine, reduced, that takes the rows that both take."""
    return paired(one, other, lambda first, second: first and second)


def joined(one, other):
    """The machine, reduced, that takes the rows that one of both takes, or both."""
    return paired(one, other, lambda first, second: first or second)


def letter_of(letter, tracks):
    """What is left of a letter when it is seen on these tracks alone, the first of them becoming track 0."""
    return sum([((letter >> track) & 1) << number for number, track in enumerate(tracks)])


def spread(machine, tracks, width):
    """The machine of so many tracks that goes as the machine does by what it sees on these tracks."""
    seen = [letter_of(letter, tracks) for letter in range(1 << width)]
    return (width, tuple([renamed(seen, ways) for ways in machine[1]]), machine[2])


def widened(machine, track):
    """The machine, reduced, with one track more, of this number, that has no say in what is taken."""
    if machine[0] >= MOST_TRACKS or not is_below(track, machine[0] + 1):
        raise NoWidth("the machine can't have one track more of this number")
    others = [number for number in range(machine[0] + 1) if number != track]
    return reduced(spread(machine, others, machine[0] + 1))


def both_letters(letter, track):
    """The letters that come of a letter where the track is put into it: without it, with it."""
    above = letter >> track
    without = letter + (above << track)
    return (without, without + (1 << track))


def coming_rooms(machine, rooms, letters):
    """The rooms that come of one of these rooms by one of these letters, each once and rising."""
    found = []
    for room in rooms:
        found.extend([machine[1][room][letter] for letter in letters])
    return tuple(sorted(set(found)))


def dropped(machine, track):
    """The machine, reduced, that takes a row where by some way of putting the track into it the machine takes it."""
    if not is_below(track, machine[0]):
        raise NoWidth("the machine has no track of this number")
    letters = [both_letters(letter, track) for letter in range(1 << (machine[0] - 1))]

    def comings(rooms):
        return [coming_rooms(machine, rooms, both) for both in letters]

    return explored(machine[0] - 1, (0,), comings, lambda rooms: any([machine[2][room] for room in rooms]))
