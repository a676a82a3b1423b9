"""What machines are asked: their first row, how many rows they take, and each of these by its number."""

from setsays.built import built, fitting
from setsays.errors import NoNumber, NoRow
from setsays.joins import flipped, met
from setsays.machines import gone, parted, takes
from setsays.wholes import is_below

LONGEST = 100


def shortest(machine):
    """The shortest row that the machine takes, of several the least as a list; None where there is none."""
    takes_none = (machine[0], ((0,) * (1 << machine[0]),), (False,))
    return parted(machine, takes_none)


def verdict(saying, frame):
    """Whether the saying holds for each row that fits: if not, with the first row for which it doesn't."""
    machine = built(saying, frame)
    row = shortest(met(fitting(frame), flipped(machine)))
    if row is None:
        return ("yes",)
    return ("no", row)


def one_letter_more(machine, counts):
    """How many rows are taken from each room that have one letter more than those that the counts tell of."""
    more = []
    for ways in machine[1]:
        more.append(sum([counts[room] for room in ways]))
    return more


def counts_from(machine, length):
    """A list that has for each number of letters, up to the length, how many rows of so many each room takes."""
    counts = [[int(end) for end in machine[2]]]
    while len(counts) <= length:
        counts.append(one_letter_more(machine, counts[-1]))
    return counts


def check_length(length):
    """Refuses what is no length that is asked for."""
    if not is_below(length, LONGEST + 1):
        raise NoNumber("a length is a whole number from 0 to 100")


def how_many(machine, length):
    """How many rows of this length the machine takes."""
    check_length(length)
    return counts_from(machine, length)[length][0]


def row_by(machine, length, number):
    """The row of this length, of those that the machine takes, that has this number in the order of lists."""
    check_length(length)
    counts = counts_from(machine, length)
    if not is_below(number, counts[length][0]):
        raise NoNumber("there is no row by this number")
    row = []
    room = 0
    # How many rows there are yet ahead of the one asked for, of those that begin as the row does.
    ahead = number
    while len(row) < length:
        ways = machine[1][room]
        behind = counts[length - len(row) - 1]
        letter = 0
        while ahead >= behind[ways[letter]]:
            ahead -= behind[ways[letter]]
            letter += 1
        row.append(letter)
        room = ways[letter]
    return row


def number_of(machine, row):
    """The number of a row, of those of its length that the machine takes, in the order of lists."""
    if len(row) > LONGEST or not takes(machine, row):
        raise NoRow("the row has more than a hundred letters, or isn't taken")
    counts = counts_from(machine, len(row))
    rooms = gone(machine, row)
    number = 0
    for at, letter in enumerate(row):
        behind = counts[len(row) - at - 1]
        number += sum([behind[room] for room in machine[1][rooms[at]][:letter]])
    return number
