"""Loops: edits that keep the order in which the pieces follow each other around, and how many turns they make."""

from halfcuts.checks import check_at_least, check_between
from halfcuts.cycles import Cycles
from halfcuts.edits import Edit, kind_of
from halfcuts.errors import NoLoop
from halfcuts.moments import is_before
from halfcuts.permuted import halved_to, permuted_cycles, pieces_of
from halfcuts.ratios import ratio
from halfcuts.words import cut_with

# The largest n of `turn_loop`.
MOST = 12


def check_loop(edit):
    """Raise NoLoop for an edit that is no loop."""
    if not is_loop(edit):
        raise NoLoop(None)


def is_loop(edit):
    """Tell whether an edit is a loop, of which also `same` and `retime` are kinds."""
    return kind_of(edit) != "shuffle"


def rotation(edit):
    """Return the number of turns around any cycle by its length, without whole turns, as a tuple in lowest terms."""
    check_loop(edit)
    moments = moments_around(edit)
    start = edit(("", "0"))
    # The images of the moments of a cycle are these moments themselves.
    turns = len([moment for moment in moments if is_before(moment, start)])
    return ratio(turns % len(moments), len(moments))


def moments_around(edit):
    """Return the moments, perhaps not in plain form, of a drawing cycle, of one that comes back if there is none."""
    cycles = Cycles(edit)
    if cycles.drawing:
        return cycles.drawing[0]
    return [(piece, "0") for piece, _ in cycles.whole[0]]


def turn_loop(turns, n):
    """Return a loop with an order and the rotation turns / n."""
    check_at_least(turns, 0)
    check_between(n, 1, MOST)
    check_between(turns, 0, n - 1)
    cut = cut_with(["1" * (n - 1)])
    return Edit(list(zip(cut, cut[turns:] + cut[:turns])))


def loop_between(first, second):
    """Return a loop h with -h + first + h == second, None if there is none."""
    check_loop(first)
    check_loop(second)
    cycles, others = permuted_cycles(first), permuted_cycles(second)
    if rotation(first) != rotation(second):
        return None
    # A loop with an order has cycles of one length only, and the rotation tells how many pieces
    # further each piece of a cut is taken: with as many pieces, both do the same with the k-th ones.
    many = max(len(cycles), len(others))
    sources = sorted(pieces_of(halved_to(cycles, many)))
    targets = sorted(pieces_of(halved_to(others, many)))
    return Edit(list(zip(sources, targets)))
