"""What several test files try everything on: all short words, cuts and moments."""

from itertools import product


def all_words(longest):
    return ["".join(signs) for many in range(longest + 1) for signs in product("01", repeat=many)]


def all_cuts(deepest):
    """Return all cuts with words of at most so many signs, made by halving alone."""
    if deepest == 0:
        return [[""]]
    parts = all_cuts(deepest - 1)
    return [[""]] + [["0" + word for word in low] + ["1" + word for word in high] for low in parts for high in parts]


def all_moments(longest_head, longest_ring):
    return [(head, ring) for head in all_words(longest_head) for ring in all_words(longest_ring) if ring]


def start_of(moment, many):
    """Return the first places of a sequence, sign by sign."""
    head, ring = moment
    signs = list(head)
    while len(signs) < many:
        signs.extend(ring)
    return "".join(signs[:many])


NO_WORDS = ["2", "0a", "a0", "0 1", " 01", "01 ", "01\n", "-", "O1", "\u0661", "0" * 39 + "x", "0b1", "+1"]
NO_MOMENTS = (
    [(word, "0") for word in NO_WORDS]
    + [("0", word) for word in NO_WORDS]
    + [("", ""), ("01", ""), ("2", ""), ("2", "3")]
)


def raised(error, call, *values, **named):
    """Return the value of the error that a call raises; fail if it is of another class."""
    try:
        call(*values, **named)
    except error as caught:
        if caught.__class__ is error:
            return caught.value
    raise AssertionError((error, call, values, named))
