"""Where a moment is after however many repetitions, and how often it was in a piece."""

from halfcuts.checks import check_at_least, check_moment, check_places, check_word, sign_at
from halfcuts.cycles import Cycles
from halfcuts.ratios import ratio
from halfcuts.walks import Walk, course, walk_until_drawn


def letters_after(edit, moment, n, low, high):
    """Return the word of the places low to high - 1 of the moment to which the n-th repetition takes a moment."""
    check_moment(moment)
    check_at_least(n, 0)
    check_places(low, high)
    walk = Walk(edit, moment)
    parts = parts_after(edit, walk, n)
    return "".join([sign_in(parts, walk, place) for place in range(low, high)])


def parts_after(edit, walk, n):
    """Let a walk end with the n-th repetition; return tuples (word, times) of what is then in front of its rest.

    It goes around a drawing cycle less often than n tells, and the words make up for that.
    """
    cycles = Cycles(edit)
    back = cycles.return_of(walk.origin)
    if back is not None:
        walk.step(n % back[0])
        return [(walk.word, 1)]
    steps, number, index = walk_until_drawn(cycles, Walk(edit, walk.origin))
    if n < steps:
        walk.step(n)
        return [(walk.word, 1)]
    cycle = cycles.drawing[number]
    rounds, more = divmod(n - steps, len(cycle))
    walk.step(steps + more)
    piece, rest = cycle[(index + more) % len(cycle)]
    return [(walk.read(len(piece)), 1), (rest, rounds), (walk.word[len(piece):], 1)]


def sign_in(parts, walk, place):
    """Return the sign at a place of words that are repeated so many times, or behind them of the walk's rest."""
    for word, times in parts:
        if place < len(word) * times:
            return word[place % len(word)]
        place -= len(word) * times
    return sign_at(walk.origin, walk.place + place)


def visits(edit, moment, piece, n):
    """Return how many of the moments after 0 to n - 1 repetitions begin with a piece."""
    check_moment(moment)
    check_word(piece)
    check_at_least(n, 0)
    first, around = course(edit, moment, len(piece))
    if n <= len(first):
        return first[:n].count(piece)
    rounds, more = divmod(n - len(first), len(around))
    return first.count(piece) + rounds * around.count(piece) + around[:more].count(piece)


def first_visit(edit, moment, piece):
    """Return the least number of repetitions after which a moment begins with a piece, or None."""
    check_moment(moment)
    check_word(piece)
    first, around = course(edit, moment, len(piece))
    words = first + around
    return words.index(piece) if piece in words else None


def share(edit, moment, piece):
    """Return the share of all repetitions after which a moment begins with a piece, as a tuple in lowest terms."""
    check_moment(moment)
    check_word(piece)
    around = course(edit, moment, len(piece))[1]
    return ratio(around.count(piece), len(around))
