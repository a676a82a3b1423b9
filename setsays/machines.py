"""Machines that go along rows: what they take, their least form, and what parts them."""

from setsays.errors import NoWidth


def gone(machine, row):
    """The rooms along a row: 0, and the one behind each letter."""
    rooms = [0]
    for letter in row:
        rooms.append(machine[1][rooms[-1]][letter])
    return rooms


def takes(machine, row):
    """Whether the machine takes the row."""
    return machine[2][gone(machine, row)[-1]]


def reached(machine):
    """The rooms that are come to, in the order in which they are."""
    rooms = [0]
    known = {0: True}
    at = 0
    while at < len(rooms):
        here = rooms[at]
        for room in machine[1][here]:
            if room not in known:
                known[room] = True
                rooms.append(room)
        at += 1
    return rooms


def renamed(rooms, numbers):
    """The numbers of these rooms."""
    return tuple([numbers[room] for room in rooms])


def picked(machine, rooms, numbers):
    """The machine of these rooms alone, each room being called by its number."""
    ways = [renamed(machine[1][room], numbers) for room in rooms]
    ends = [machine[2][room] for room in rooms]
    return (machine[0], tuple(ways), tuple(ends))


def numbered(marks):
    """For each mark a number: unlike ones are numbered in the order in which they first come."""
    numbers = {}
    for mark in marks:
        if mark not in numbers:
            numbers[mark] = len(numbers)
    return [numbers[mark] for mark in marks]


def finer_sorts(machine, sorts):
    """The sorts parted further: two rooms stay of one sort where by each letter rooms of one sort come, too."""
    return numbered([(sort,) + renamed(ways, sorts) for sort, ways in zip(sorts, machine[1])])


def sorts_by(ends, part_further):
    """For each room the number of its sort: parted by its end's truth, and then further as long as that parts any."""
    sorts = numbered(ends)
    finer = part_further(sorts)
    while finer != sorts:
        sorts = finer
        finer = part_further(sorts)
    return sorts


def reduced(machine):
    """The machine of the fewest rooms that takes the same rows, its rooms in the order in which they are come to."""
    rooms = reached(machine)
    in_order = picked(machine, rooms, dict([(room, number) for number, room in enumerate(rooms)]))
    sorts = sorts_by(in_order[2], lambda coarser: finer_sorts(in_order, coarser))
    # A sort is come to when the first of its rooms is: so the sorts, as they are numbered, are in order already.
    firsts = [sorts.index(sort) for sort in range(max(sorts) + 1)]
    return picked(in_order, firsts, sorts)


def parted(one, other):
    """The shortest row that just one of both takes, of several the least as a list; None where there is none."""
    if one[0] != other[0]:
        raise NoWidth("the machines' tracks are not as many")
    # Pairs are come to first by their shortest row, and of several such by the least.
    rows = {(0, 0): []}
    pairs = [(0, 0)]
    at = 0
    while at < len(pairs):
        pair = pairs[at]
        if one[2][pair[0]] != other[2][pair[1]]:
            return rows[pair]
        for letter, coming in enumerate(zip(one[1][pair[0]], other[1][pair[1]])):
            if coming not in rows:
                rows[coming] = rows[pair] + [letter]
                pairs.append(coming)
        at += 1
    return None
