"""How a bare saying stands with the part of a tree from some node down, the whole tree being one that fits."""

# Nothing is settled: neither name's node has been met with, as far as the saying asks for nodes.
WAITING = 0
# The second name's node has been met with, and the first one's may still come right above it, or anywhere above it.
SECOND = 1
# Settled, whatever else the tree has.
YES = 2
NO = 3
HOW_MANY = 4


def told(truth):
    """The mark of a saying that is settled so."""
    return YES if truth else NO


def sides_asked(word, left, right):
    """The marks of those sides of the first name's node on which left, right or above ask for the second one's."""
    if word == "left":
        return (left,)
    if word == "right":
        return (right,)
    return (left, right)


def mark_of_related(word, one, other, left, right):
    """The mark of left, right or above, where it is settled neither on the left nor on the right."""
    if one:
        return told(SECOND in sides_asked(word, left, right))
    if other:
        return SECOND
    if SECOND not in (left, right):
        return WAITING
    return SECOND if word == "above" else NO


def mark_of(word, one, other, left, right):
    """The mark from a node down that has or hasn't the one and the other name's track, by those of both its sides."""
    if YES in (left, right) or NO in (left, right):
        return told(YES in (left, right))
    if word == "within":
        return NO if one and not other else WAITING
    if word == "in":
        return told(other) if one else WAITING
    if word == "same":
        return told(one and other) if one or other else WAITING
    return mark_of_related(word, one, other, left, right)


def holds_with(word, mark):
    """Whether a bare saying of this word that has this mark with a whole tree holds."""
    return mark == YES or (word == "within" and mark == WAITING)
