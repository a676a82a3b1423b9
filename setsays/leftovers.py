"""What a saying still asks of a row's letters to come, when some of its letters have been gone past.

A some over sets has twice as many sets to try with each place more. So they are not tried one by one: letter by
letter, of all the sets tried so far, only what they leave is kept, each leftover once; mostly these are few.
"""

from setsays.names import is_place
from setsays.sayings import is_bare

# The numbers of the two leftovers that are settled, whatever letters come.
NO = 0
YES = 1


def bit_of(name, names):
    """The worth of the binary figure that stands for the name's track."""
    return 1 << names.index(name)


def worth_keeping(lefts):
    """Those of the leftovers' numbers that may still hold, each once and rising, so that like choices are equal."""
    return tuple(sorted(set([left for left in lefts if left != NO])))


class Leftovers:
    """Leftovers and their numbers: those that are alike have one number, so that they are looked at once.

    The forms: ("no",), ("yes",); a bare one with bits in the place of names; ("here", bit, bit), that the very next
    letter has the bit; ("not", left), ("and", left, left); ("some set", bit, lefts), that one of these holds with some
    choice of the letters to come that have the bit; ("some place", bit, unplaced, lefts), that one of these holds,
    the bit's place being past, or unplaced does with its place yet to come. A left is the number of a leftover.
    """

    def __init__(self):
        self.forms = [("no",), ("yes",)]
        self.numbers = {}
        self.steps = {}

    def numbered(self, form):
        """The number of a leftover of this form."""
        if form not in self.numbers:
            self.numbers[form] = len(self.forms)
            self.forms.append(form)
        return self.numbers[form]

    def of_not(self, left):
        """The leftover that holds where the other one doesn't."""
        if left == NO:
            return YES
        if left == YES:
            return NO
        form = self.forms[left]
        return form[1] if form[0] == "not" else self.numbered(("not", left))

    def of_and(self, one, other):
        """The leftover that holds where both do."""
        if one == NO or other == NO:
            return NO
        if one == YES or one == other:
            return other
        if other == YES:
            return one
        return self.numbered(("and", min(one, other), max(one, other)))

    def of_or(self, one, other):
        """The leftover that holds where one does, or both."""
        return self.of_not(self.of_and(self.of_not(one), self.of_not(other)))

    def of_some_set(self, bit, lefts):
        """The leftover that one of these holds with some choice of letters to come."""
        kept = worth_keeping(lefts)
        if YES in kept:
            return YES
        return self.numbered(("some set", bit, kept)) if kept else NO

    def of_some_place(self, bit, unplaced, lefts):
        """The leftover that one of these holds, or the unplaced one with a place to come."""
        kept = worth_keeping(lefts)
        if YES in kept:
            return YES
        # An unplaced YES is not settled: the row may have no letter more that could be the place.
        if unplaced == NO and not kept:
            return NO
        return self.numbered(("some place", bit, unplaced, kept))

    def of_some(self, name, bit, left):
        """The leftover of a some of this name, ahead of the first letter."""
        return self.of_some_place(bit, left, []) if is_place(name) else self.of_some_set(bit, [left])

    def of_saying(self, saying, names):
        """The leftover of a whole saying, ahead of the first letter; the names have the tracks, in order."""
        word = saying[0]
        if is_bare(saying):
            return self.numbered((word, bit_of(saying[1], names), bit_of(saying[2], names)))
        if word == "not":
            return self.of_not(self.of_saying(saying[1], names))
        if word == "and":
            return self.of_and(self.of_saying(saying[1], names), self.of_saying(saying[2], names))
        if word == "or":
            return self.of_or(self.of_saying(saying[1], names), self.of_saying(saying[2], names))
        bit = 1 << len(names)
        left = self.of_saying(saying[2], names + [saying[1]])
        if word == "some":
            return self.of_some(saying[1], bit, left)
        return self.of_not(self.of_some(saying[1], bit, self.of_not(left)))

    def behind(self, left, letter):
        """What is left of a leftover behind this letter."""
        if left == NO or left == YES:
            return left
        step = (left, letter)
        if step not in self.steps:
            self.steps[step] = self.behind_form(left, letter)
        return self.steps[step]

    def behind_form(self, left, letter):
        """What is left of a leftover that isn't settled yet."""
        form = self.forms[left]
        if form[0] == "not":
            return self.of_not(self.behind(form[1], letter))
        if form[0] == "and":
            return self.of_and(self.behind(form[1], letter), self.behind(form[2], letter))
        if form[0] == "some set":
            without = [self.behind(inner, letter) for inner in form[2]]
            return self.of_some_set(form[1], without + [self.behind(inner, letter | form[1]) for inner in form[2]])
        if form[0] == "some place":
            placed = [self.behind(inner, letter) for inner in form[3]]
            placed.append(self.behind(form[2], letter | form[1]))
            return self.of_some_place(form[1], self.behind(form[2], letter), placed)
        return self.behind_bare(left, (letter & form[1]) != 0, (letter & form[2]) != 0)

    def behind_bare(self, left, one, other):
        """What is left of a bare leftover behind a letter that has, or has not, its one and its other bit."""
        form = self.forms[left]
        if form[0] == "within":
            return NO if one and not other else left
        if form[0] == "here":
            return YES if one else NO
        # The set of an in may have places ahead of the one that it is asked for.
        if not one and (not other or form[0] == "in"):
            return left
        if form[0] in ("in", "same"):
            return YES if one and other else NO
        if other:
            return NO
        return YES if form[0] == "ahead" else self.numbered(("here", form[2], form[2]))

    def at_end(self, left):
        """Whether a leftover holds where no letter comes any more."""
        form = self.forms[left]
        if form[0] == "not":
            return not self.at_end(form[1])
        if form[0] == "and":
            return self.at_end(form[1]) and self.at_end(form[2])
        if form[0] == "some set":
            return any([self.at_end(inner) for inner in form[2]])
        if form[0] == "some place":
            return any([self.at_end(inner) for inner in form[3]])
        return form[0] in ("yes", "within")
