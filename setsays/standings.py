"""How a saying stands with the part of a tree from some node down.

A some over sets has twice as many sets to try with each node more. So they are not tried one by one: from the tree's
lowest nodes up, of all the sets tried so far, only how the saying stands with them is kept, each standing once.
"""

from setsays.marks import NO, SECOND, WAITING, YES, holds_with, mark_of, told
from setsays.names import is_place
from setsays.sayings import is_bare


def turned(standing):
    """How a not stands where what it denies stands so."""
    if standing in (YES, NO):
        return told(standing == NO)
    return standing


def worth_keeping(standings):
    """Those of the standings that may still hold, each once and rising, so that like choices are equal."""
    return tuple(sorted(set([standing for standing in standings if standing != NO])))


class Standings:
    """The parts of a saying and their standings, all by numbers: those that are alike have one number.

    The parts: a bare one with bits in the place of names; ("not", part), ("and", part, part); ("some set", bit, part),
    ("some place", bit, part). The standings: those of marks, which a not shares with what it denies; (one, other) of
    an and; (kept,) of a some over sets, one for each choice of sets below; (unplaced, kept) of a some over places, how
    the inner part stands with the place yet to come, and how with each choice of a place below.
    """

    def __init__(self):
        self.parts = []
        self.forms = [(WAITING,), (SECOND,), (YES,), (NO,)]
        self.numbers = {}
        self.steps = {}

    def numbered(self, form):
        """The number of the standing of this form."""
        if form not in self.numbers:
            self.numbers[form] = len(self.forms)
            self.forms.append(form)
        return self.numbers[form]

    def part_of(self, saying, names):
        """The number of the part that is this saying; the names have the tracks, in order."""
        word = saying[0]
        if word == "or":
            return self.part_of(("not", ("and", ("not", saying[1]), ("not", saying[2]))), names)
        if word == "all":
            return self.part_of(("not", ("some", saying[1], ("not", saying[2]))), names)
        if word == "some":
            sort = "some place" if is_place(saying[1]) else "some set"
            part = (sort, 1 << len(names), self.part_of(saying[2], names + [saying[1]]))
        elif is_bare(saying):
            part = (word, 1 << names.index(saying[1]), 1 << names.index(saying[2]))
        else:
            part = (word,) + tuple([self.part_of(inner, names) for inner in saying[1:]])
        self.parts.append(part)
        return len(self.parts) - 1

    def of_and(self, one, other):
        """How an and stands whose parts stand so."""
        if NO in (one, other):
            return NO
        return YES if one == YES and other == YES else self.numbered((one, other))

    def of_some_set(self, standings):
        """How a some over sets stands where by each choice of sets its part stands in one of these ways."""
        kept = worth_keeping(standings)
        if YES in kept:
            return YES
        return self.numbered((kept,)) if kept else NO

    def of_some_place(self, unplaced, placed):
        """How a some over places stands where its part stands so with the place to come, and so with each place."""
        kept = worth_keeping(placed)
        if YES in kept:
            return YES
        # An unplaced YES is not settled: the tree may have no node more that could be the place.
        if unplaced == NO and not kept:
            return NO
        return self.numbered((unplaced, kept))

    def of_nothing(self, number):
        """How the part stands with the tree without nodes."""
        part = self.parts[number]
        if part[0] == "not":
            return turned(self.of_nothing(part[1]))
        if part[0] == "and":
            return self.of_and(self.of_nothing(part[1]), self.of_nothing(part[2]))
        if part[0] == "some set":
            return self.of_some_set([self.of_nothing(part[2])])
        if part[0] == "some place":
            return self.of_some_place(self.of_nothing(part[2]), [])
        return WAITING

    def above(self, number, letter, left, right):
        """How the part stands from a node down that has this letter, where it stands so on its left and its right."""
        if YES in (left, right) or NO in (left, right):
            return told(YES in (left, right))
        step = (number, letter, left, right)
        if step not in self.steps:
            self.steps[step] = self.above_unsettled(number, letter, left, right)
        return self.steps[step]

    def above_unsettled(self, number, letter, left, right):
        """The same where it is settled neither on the left nor on the right."""
        part = self.parts[number]
        if part[0] == "not":
            return turned(self.above(part[1], letter, left, right))
        if part[0] == "and":
            lefts = self.forms[left]
            rights = self.forms[right]
            return self.of_and(self.above(part[1], letter, lefts[0], rights[0]),
                               self.above(part[2], letter, lefts[1], rights[1]))
        if part[0] == "some set":
            return self.above_sets(part, letter, self.forms[left][0], self.forms[right][0])
        if part[0] == "some place":
            return self.above_places(part, letter, self.forms[left], self.forms[right])
        return mark_of(part[0], (letter & part[1]) != 0, (letter & part[2]) != 0, left, right)

    def above_sets(self, part, letter, lefts, rights):
        """How a some over sets stands: by each choice on the left, on the right, and of the node in or not."""
        found = []
        for left in lefts:
            for right in rights:
                found.append(self.above(part[2], letter, left, right))
                found.append(self.above(part[2], letter | part[1], left, right))
        return self.of_some_set(found)

    def above_places(self, part, letter, lefts, rights):
        """How a some over places stands: the place lies on the left, or on the right, or is the node, or comes yet."""
        placed = [self.above(part[2], letter, left, rights[0]) for left in lefts[1]]
        placed.extend([self.above(part[2], letter, lefts[0], right) for right in rights[1]])
        placed.append(self.above(part[2], letter | part[1], lefts[0], rights[0]))
        return self.of_some_place(self.above(part[2], letter, lefts[0], rights[0]), placed)

    def with_whole(self, number, standing):
        """Whether the part holds where it stands so with the whole tree."""
        if standing in (YES, NO):
            return standing == YES
        part = self.parts[number]
        form = self.forms[standing]
        if part[0] == "not":
            return not self.with_whole(part[1], standing)
        if part[0] == "and":
            return self.with_whole(part[1], form[0]) and self.with_whole(part[2], form[1])
        if part[0] in ("some set", "some place"):
            return any([self.with_whole(part[2], inner) for inner in form[-1]])
        return holds_with(part[0], standing)
