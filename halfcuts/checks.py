"""What most files rest on: the checks of words, moments and numbers, and the signs of a sequence."""

from halfcuts.errors import InvalidMoment, InvalidNumber, InvalidWord


def is_word(text):
    """Tell whether a string has no signs but 0 and 1."""
    return text.strip("01") == ""


def check_word(word):
    """Raise InvalidWord for a string that is no word."""
    if not is_word(word):
        raise InvalidWord(word)


def check_moment(moment):
    """Raise InvalidMoment for a tuple of strings that is no moment."""
    head, ring = moment
    if not is_word(head) or not is_word(ring) or ring == "":
        raise InvalidMoment(moment)


def check_at_least(number, least):
    """Raise InvalidNumber for a number that is too small."""
    if number < least:
        raise InvalidNumber(number)


def check_between(number, least, most):
    """Raise InvalidNumber for a number that is too small or too large."""
    if number < least or number > most:
        raise InvalidNumber(number)


def check_places(low, high):
    """Raise InvalidNumber for places that no word of a sequence has."""
    check_at_least(low, 0)
    check_at_least(high, low)


def first_signs(moment, many):
    """Return the word of the first places of a moment's sequence."""
    head, ring = moment
    return (head + ring * (many // len(ring) + 1))[:many]


def signs_between(moment, low, high):
    """Return the word of the places low to high - 1 of a moment's sequence, however far behind."""
    return "".join([sign_at(moment, place) for place in range(low, high)])


def sign_at(moment, place):
    """Return the sign at one place of a moment's sequence."""
    head, ring = moment
    if place < len(head):
        return head[place]
    return ring[(place - len(head)) % len(ring)]


def signs_behind(moment, many):
    """Return the moment that is left, perhaps not in plain form, without the first places of a sequence."""
    head, ring = moment
    if many <= len(head):
        return head[many:], ring
    turn = (many - len(head)) % len(ring)
    return "", ring[turn:] + ring[:turn]
