"""How many edits there are with so many reduced pairs, and all of them one by one."""

from itertools import permutations
from math import comb, factorial

from halfcuts.checks import check_at_least
from halfcuts.edits import Edit
from halfcuts.pairs import reduced


def count_edits(pairs, kind):
    """Return the number of edits of a kind with so many reduced pairs."""
    check_at_least(pairs, 1)
    found = 0
    sign = 1
    # Counted are lists of pairs in which so many couples, each of two pairs that may be replaced by one, are chosen.
    # A list that has such couples is counted as often with an even number chosen as with an odd one; the reduced lists
    # alone are left.
    for couples in range(pairs // 2 + 1):
        left = pairs - couples
        found += sign * comb(left, couples) * count_lists(left, kind)
        sign = -sign
    return found


def count_lists(many, kind):
    """Return the number of lists of so many pairs, reduced or not, that are edits of a kind."""
    cuts = comb(2 * many - 2, many - 1) // many
    if kind == "shuffle":
        return cuts * cuts * factorial(many)
    if kind == "loop":
        return cuts * cuts * many
    return cuts * cuts


def all_edits(pairs, kind):
    """Yield the edits of a kind with so many reduced pairs, ascending by the lists of these."""
    check_at_least(pairs, 1)
    for found in reduced_lists(pairs, kind):
        yield Edit(found)


def reduced_lists(many, kind):
    """Return the ascending list of the lists of so many reduced pairs that are edits of a kind."""
    cuts = cuts_of(many)
    found = []
    for sources in cuts:
        for cut in cuts:
            lists = [list(zip(sources, targets)) for targets in arranged(cut, kind)]
            found.extend([pairs for pairs in lists if reduced(pairs) == pairs])
    return sorted(found)


def cuts_of(many):
    """Return the list of all cuts of so many pieces."""
    if many == 1:
        return [[""]]
    found = []
    for low in range(1, many):
        for first in cuts_of(low):
            for second in cuts_of(many - low):
                found.append(["0" + word for word in first] + ["1" + word for word in second])
    return found


def arranged(cut, kind):
    """Return the list of the orders in which the pieces of a cut may be the targets of an edit of a kind."""
    if kind == "shuffle":
        return [list(targets) for targets in permutations(cut)]
    if kind == "loop":
        return [cut[start:] + cut[:start] for start in range(len(cut))]
    return [cut]
