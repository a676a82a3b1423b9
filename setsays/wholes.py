"""Whole numbers: what is one, and which lie below a bound."""


def is_whole(thing):
    """Whether the thing is a whole number: a truth is none."""
    return isinstance(thing, int) and not isinstance(thing, bool)


def is_below(thing, bound):
    """Whether the thing is a whole number from 0 to below the bound."""
    return is_whole(thing) and 0 <= thing < bound
