"""Edits that take given moments to others."""

from halfcuts.checks import first_signs, sign_at
from halfcuts.edits import Edit
from halfcuts.moments import have_common_tail, plain
from halfcuts.permuted import halved_to, pieces_of
from halfcuts.words import cut_with


def can_take(pairs):
    """Tell whether some edit takes the first moment of each pair to the second one."""
    return goals_of(pairs) is not None


def edit_taking(pairs):
    """Return an edit that takes the first moment of each pair to the second one, None if there is none."""
    goals = goals_of(pairs)
    if goals is None:
        return None
    sources, targets = pieces_around(goals)
    rest, others = beside(sources), beside(targets)
    many = max(len(rest), len(others))
    sources = sources + pieces_of(halved_to(rest, many))
    targets = targets + pieces_of(halved_to(others, many))
    return Edit(list(zip(sources, targets)))


def goals_of(pairs):
    """Return a dict of the first moments, in plain form, with the second ones, None if no edit takes them so."""
    moves = [(plain(first), plain(second)) for first, second in pairs]
    goals = dict(moves)
    origins = {second: first for first, second in moves}
    for first, second in moves:
        if goals[first] != second or origins[second] != first or not have_common_tail(first, second):
            return None
    return goals


def pieces_around(goals):
    """Return the list of a piece around each moment, no two with a common moment, and that of their images."""
    firsts, seconds = list(goals), list(goals.values())
    sources, targets = [], []
    for first, second in goals.items():
        low, high = places_before_tail(first, second)
        # One place more than needed leaves something beside all the pieces, so that the rest can be taken to the rest.
        more = 1 + max(0, places_apart(first, firsts) - low, places_apart(second, seconds) - high)
        sources.append(first_signs(first, low + more))
        targets.append(first_signs(second, high + more))
    return sources, targets


def places_before_tail(first, second):
    """Return how many places of each of two moments, both in plain form, stand before the tail that they share."""
    head, ring = first
    other, turned = second
    turn = (ring + ring).find(turned)
    if turn * 2 <= len(ring):
        return len(head) + turn, len(other)
    return len(head), len(other) + len(ring) - turn


def places_apart(moment, moments):
    """Return how many places of a moment no other one of a list begins with."""
    return max([places_shared(moment, other) + 1 for other in moments if other != moment], default=0)


def places_shared(first, second):
    """Return at how many places from the first one on two different moments are the same."""
    place = 0
    while sign_at(first, place) == sign_at(second, place):
        place += 1
    return place


def beside(pieces):
    """Return the fewest pieces that make up a cut together with these ones, each in a list of its own, to be halved."""
    return [[piece] for piece in cut_with(pieces) if piece not in pieces]
