"""Names of places and of sets, and the frames that are made of them."""

SMALL_LETTERS = "abcdefghijklmnopqrstuvwxyz"
GREAT_LETTERS = "ABCDEFGHIJKLMNOPQRSTUVWXYZ"
FIGURES = "0123456789"
LONGEST_NAME = 4
MOST_NAMES = 4


def is_letter_with_figures(thing, letters):
    """Whether the thing is a text of one of the letters and none to three figures behind it."""
    if not isinstance(thing, str) or thing == "" or len(thing) > LONGEST_NAME:
        return False
    # islower, isupper and isdigit would let in letters and figures of other scripts.
    return thing[0] in letters and all([sign in FIGURES for sign in thing[1:]])


def is_place(thing):
    """Whether the thing is the name of a place."""
    return is_letter_with_figures(thing, SMALL_LETTERS)


def is_set(thing):
    """Whether the thing is the name of a set."""
    return is_letter_with_figures(thing, GREAT_LETTERS)


def is_name(thing):
    """Whether the thing is a name of either sort."""
    return is_place(thing) or is_set(thing)


def is_frame(thing):
    """Whether the thing is a list of at most four names, each once."""
    if not isinstance(thing, list) or len(thing) > MOST_NAMES:
        return False
    # Names first: what is no name may be a thing that no set can hold.
    return all([is_name(name) for name in thing]) and len(set(thing)) == len(thing)
