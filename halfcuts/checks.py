"""What words and moments both rest on: their checks, and the signs of a sequence."""

from halfcuts.errors import InvalidMoment, InvalidWord


def is_word(text):
    """Tell whether a string has no signs but 0 and 1."""
    return text.strip("01") == ""


def check_word(word):
    """Raise InvalidWord for a string that is no word."""
    if not is_word(word):
        raise InvalidWord(word)


def check_moment(moment):
    """Raise InvalidMoment for a tuple of strings that is no moment."""
    head, ring = moment
    if not is_word(head) or not is_word(ring) or ring == "":
        raise InvalidMoment(moment)


def first_signs(moment, many):
    """Return the word of the first places of a moment's sequence."""
    head, ring = moment
    return (head + ring * (many // len(ring) + 1))[:many]
