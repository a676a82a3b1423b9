"""Sayings as texts: shown, and read again."""

from setsays.errors import NoText
from setsays.sayings import DEEPEST, TELLING_WORDS, is_any_saying, is_bare


def shown(saying):
    """The text of a saying."""
    word = saying[0]
    if is_bare(saying):
        return " ".join([saying[1], word, saying[2]])
    if word == "not":
        return "not " + shown(saying[1])
    if word in TELLING_WORDS:
        return " ".join([word, saying[1], shown(saying[2])])
    return "(" + " ".join([shown(saying[1]), word, shown(saying[2])]) + ")"


def words_between_blanks(text):
    """What stands in a text between blanks, in order."""
    # Without a written blank, split would take line feeds and tabs for blanks too.
    return [word for word in text.split(" ") if word != ""]


def words_of(text):
    """The words of a saying's text in order, brackets among them."""
    return words_between_blanks(text.replace("(", " ( ").replace(")", " ) "))


def take_word(left):
    """Takes away the first of the words that are left, which stands last; the text without signs if there is none."""
    return left.pop() if left else ""


def take_saying(left, deepest):
    """Takes away the words of one saying, at most so deep; whether words and names fit together is not looked at."""
    if deepest == 0:
        raise NoText("the text is of a saying that is too deep")
    first = take_word(left)
    if first == "not":
        return ("not", take_saying(left, deepest - 1))
    if first in TELLING_WORDS:
        name = take_word(left)
        return (first, name, take_saying(left, deepest - 1))
    if first == "(":
        return take_pair(left, deepest - 1)
    word = take_word(left)
    return (word, first, take_word(left))


def take_pair(left, deepest):
    """Takes away two sayings, at most so deep, with the word between them and the bracket behind them."""
    one = take_saying(left, deepest)
    word = take_word(left)
    other = take_saying(left, deepest)
    if take_word(left) != ")":
        raise NoText("a bracket is not closed where it should be")
    return (word, one, other)


def read(text):
    """The saying of a text."""
    if not isinstance(text, str):
        raise NoText("what is read is no text")
    left = list(reversed(words_of(text)))
    saying = take_saying(left, DEEPEST)
    if left or not is_any_saying(saying):
        raise NoText("the words are not those of a saying")
    return saying
