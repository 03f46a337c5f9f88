"""The cycles of pieces of the coarsest cut that an edit with an order permutes, and more cycles by halving.

A cycle is a list of pieces, each taken to the next one, the last one to the first one. If all its pieces are halved,
the first halves are a cycle, and so are the second ones. So there may be as many cycles of a length as are needed,
once there is one.
"""

from halfcuts.cycles import Cycles
from halfcuts.errors import NoOrder


def permuted_cycles(edit):
    """Return the list of the cycles of an edit; raise NoOrder if it has no order."""
    cycles = Cycles(edit)
    if cycles.drawing:
        raise NoOrder(None)
    return [[piece for piece, _ in cycle] for cycle in cycles.whole]


def cycles_by_length(edit):
    """Return a dict of the lengths of the cycles of an edit, each with the list of them; raise NoOrder likewise."""
    found = {}
    for cycle in permuted_cycles(edit):
        found.setdefault(len(cycle), []).append(cycle)
    return found


def halved_to(cycles, many):
    """Return so many cycles, made of those of a list by halving; it has at least one, and not more than that."""
    out = list(cycles)
    # Those in front are halved and the halves put behind all others, so that no word gets much longer than needed.
    start = 0
    while len(out) - start < many:
        cycle = out[start]
        start += 1
        out.append([piece + "0" for piece in cycle])
        out.append([piece + "1" for piece in cycle])
    return out[start:]


def pieces_of(cycles):
    """Return the list of all pieces of cycles, one cycle after the other."""
    return [piece for cycle in cycles for piece in cycle]
