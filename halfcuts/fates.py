"""What becomes of moments that an edit takes on for ever: they come back, or a cycle draws them."""

from halfcuts.checks import check_at_least, check_moment
from halfcuts.cycles import Cycles
from halfcuts.moments import plain
from halfcuts.pairs import is_next_half
from halfcuts.portions import portions
from halfcuts.walks import Walk, walk_until_drawn


def fate(edit, moment):
    """Return ("back", n) for a moment that comes back after n repetitions, ("drawn", cycle) for one that is drawn."""
    check_moment(moment)
    cycles = Cycles(edit)
    back = cycles.return_of(moment)
    if back is not None:
        return "back", back[0]
    steps, number, index = walk_until_drawn(cycles, Walk(edit, moment))
    cycle = moments_of(cycles.drawing[number])
    # The moments of the cycle go around while the moment comes near, too.
    limit = (index - steps) % len(cycle)
    return "drawn", cycle[limit:] + cycle[:limit]


def pull(edit, moment):
    """Return the sum of the lengths of the sources less those of the targets until a moment comes back, or None."""
    check_moment(moment)
    back = Cycles(edit).return_of(moment)
    return None if back is None else back[1]


def moments_of(cycle):
    """Return the list of the moments that are on a cycle with rests."""
    return [plain(moment) for moment in cycle]


def drawing_cycles(edit):
    """Return the list of all drawing cycles, each beginning with its least moment, ascending by it."""
    return [moments_of(cycle) for cycle in Cycles(edit).drawing]


def repelling_cycles(edit):
    """Return the list of all repelling cycles, each beginning with its least moment, ascending by it."""
    return [moments_of(cycle) for cycle in Cycles(edit).repelling]


def shares(edit):
    """Return (back, drawn): the share of what comes back, and the list of those drawn to each drawing cycle."""
    return portions(Cycles(edit), edit.pairs)


def returning(edit, n):
    """Return (pieces, moments) for all moments that come back after n repetitions."""
    check_at_least(n, 1)
    cycles = Cycles(edit)
    whole = [piece for cycle in cycles.whole if len(cycle) == n for piece, _ in cycle]
    single = [moment for cycle in cycles.drawing + cycles.repelling if len(cycle) == n for moment in cycle]
    # No two of these moments begin with the same piece, so they ascend as their pieces do.
    return with_halves_joined(sorted(whole)), moments_of(sorted(single))


def with_halves_joined(pieces):
    """Return the ascending list of as few pieces as possible that stand for the same moments as ascending ones."""
    out = []
    for piece in pieces:
        out.append(piece)
        while len(out) > 1 and is_next_half(out[-2], out[-1]):
            out.pop()
            out.append(out.pop()[:-1])
    return out
