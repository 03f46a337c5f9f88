"""Moments: endless sequences of 0 and 1 that repeat, each given by a head and a ring."""

from halfcuts.checks import check_at_least, check_between, check_moment, check_places, first_signs, signs_between
from halfcuts.ratios import ratio


def plain(moment):
    """Return the plain form of a moment: the shortest ring, then the shortest head."""
    check_moment(moment)
    head, ring = moment
    ring = shortest_ring(ring)
    same = shared_end(head, ring)
    # The ring swallows the end of the head, so it now begins that much earlier.
    turn = len(ring) - same % len(ring)
    return head[:len(head) - same], ring[turn:] + ring[:turn]


def shortest_ring(ring):
    """Return the shortest word that, again and again, makes up a ring."""
    # A word stands inside itself written twice just where its shortest ring has gone around.
    return ring[:(ring + ring).find(ring, 1)]


def shared_end(head, ring):
    """Return how many signs at the end of a head are as in the ring, read backwards again and again."""
    same = 0
    while same < len(head) and head[-1 - same] == ring[-1 - same % len(ring)]:
        same += 1
    return same


def letters(moment, low, high):
    """Return the word of the places low to high - 1 of a moment's sequence."""
    check_moment(moment)
    check_places(low, high)
    return signs_between(moment, low, high)


def value(moment):
    """Return the number whose binary places are the sequence, as a tuple in lowest terms."""
    check_moment(moment)
    head, ring = moment
    # A ring of n signs that is read as a number r is worth r / (2 ** n - 1) of the place before it.
    whole = (1 << len(ring)) - 1
    return ratio(number_of(head) * whole + number_of(ring), whole << len(head))


def number_of(word):
    """Return the number that a word is in binary, 0 for the empty one."""
    return int("0" + word, 2)


def moments_at(top, bottom):
    """Return the ascending list of the one or two moments with the value top / bottom."""
    check_at_least(bottom, 1)
    check_between(top, 0, bottom)
    if top == bottom:
        return [("", "1")]
    head, ring = expansion(top, bottom)
    if ring != "0" or head == "":
        return [(head, ring)]
    # What ends as 1000 .. has the same value as what ends as 0111 ..
    return [(head[:-1] + "0", "1"), (head, "0")]


def expansion(top, bottom):
    """Return the moment, in plain form, with a value less than 1 that does not end in 1s only."""
    places = {}
    signs = []
    rest = top
    # What follows depends on the rest alone, and differs for different ones: the first
    # rest that occurs again gives the shortest head and the shortest ring.
    while rest not in places:
        places[rest] = len(signs)
        sign, rest = divmod(rest * 2, bottom)
        signs.append(str(sign))
    word = "".join(signs)
    return word[:places[rest]], word[places[rest]:]


def is_before(first, second):
    """Tell whether a moment is before another one."""
    check_moment(first)
    check_moment(second)
    # Behind both heads, sequences that agree for as long as both rings together agree for ever.
    many = max(len(first[0]), len(second[0])) + len(first[1]) + len(second[1])
    return first_signs(first, many) < first_signs(second, many)


def have_common_tail(first, second):
    """Tell whether two moments are the same after some beginning of each."""
    check_moment(first)
    check_moment(second)
    ring, other = shortest_ring(first[1]), shortest_ring(second[1])
    # A tail may begin anywhere in a ring, so the rings need only be turned into each other.
    return len(ring) == len(other) and other in ring + ring
