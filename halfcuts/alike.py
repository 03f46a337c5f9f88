"""Edits with orders up to renaming: which ones are alike, their roots, and each of them as two swaps."""

from math import gcd

from halfcuts.checks import check_between
from halfcuts.edits import Edit
from halfcuts.orders import cycle_lengths
from halfcuts.permuted import cycles_by_length, halved_to, permuted_cycles

# The largest k of `root`.
MOST = 6


def are_alike(first, second):
    """Tell whether two edits with orders are alike."""
    return cycle_lengths(first) == cycle_lengths(second)


def edit_between(first, second):
    """Return an edit h with -h + first + h == second, None if there is none."""
    cycles, others = cycles_by_length(first), cycles_by_length(second)
    if sorted(cycles) != sorted(others):
        return None
    pairs = []
    for length, found in cycles.items():
        many = max(len(found), len(others[length]))
        for cycle, other in zip(halved_to(found, many), halved_to(others[length], many)):
            pairs.extend(list(zip(cycle, other)))
    return Edit(pairs)


def root(edit, k):
    """Return an edit that, done k times, is the edit."""
    check_between(k, 1, MOST)
    pairs = []
    for length, found in cycles_by_length(edit).items():
        many = cycles_for_root(length, k)
        missing = -len(found) % many
        cycles = halved_to(found, len(found) + missing)
        for index in range(0, len(cycles), many):
            around = woven(cycles[index:index + many], k)
            pairs.extend(list(zip(around, around[1:] + around[:1])))
    return Edit(pairs)


def cycles_for_root(length, k):
    """Return the least number of cycles of a length that one cycle, done k times, can be."""
    # Steps of k around a cycle lead around as many cycles as its length and k have as their greatest common divisor.
    many = 1
    while gcd(length * many, k) != many:
        many += 1
    return many


def woven(cycles, k):
    """Return the one cycle that is all of these, of one length and as many as k asks for, if it is done k times."""
    around = [""] * (len(cycles) * len(cycles[0]))
    for start, cycle in enumerate(cycles):
        for step, piece in enumerate(cycle):
            around[(start + step * k) % len(around)] = piece
    return around


def two_swaps(edit):
    """Return two edits, each of which done twice is the identity, that one after the other are the edit."""
    first, second = [], []
    for cycle in permuted_cycles(edit):
        # A piece so many steps behind the first one is taken to the one as many steps before it, and from there
        # to the one a step further behind.
        mirrored = cycle[:1] + cycle[:0:-1]
        first.extend(list(zip(cycle, mirrored)))
        second.extend(list(zip(mirrored, cycle[1:] + cycle[:1])))
    return Edit(first), Edit(second)
