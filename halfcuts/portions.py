"""Shares of the clip: of all that comes back, and of what each drawing cycle draws.

Pieces of the settled cut that do not lead to such a cycle lead to a piece that is taken to none. Its sources lead on
in the same way, at most one of them to where it came from. Then what goes elsewhere in one round goes there again in
each further round, every time from a share that is smaller in the same proportion.
"""

from halfcuts.cycles import REPELLING, WHOLE, start_in
from halfcuts.ratios import plus


def portions(cycles, pairs):
    """Return (back, drawn), the share of what comes back and the list of those drawn to each drawing cycle."""
    back = (0, 1)
    drawn = [(0, 1) for _ in cycles.drawing]
    for piece in cycles.cut:
        ends, again = ends_of(cycles, pairs, piece)
        for end, depth in ends:
            part = portion(len(piece) + depth, again)
            kind, number, _ = cycles.holder(end)
            if kind == WHOLE:
                back = plus(back, part)
            else:
                drawn[number] = plus(drawn[number], part)
    return back, drawn


def ends_of(cycles, pairs, piece):
    """Return where the parts of a piece end, as a list of tuples (piece on a cycle, halvings that give the part),
    and after how many halvings all this occurs again, 0 if it does not."""
    ends = []
    again = 0
    first = end_of(cycles, piece)
    work = [(first, 0)]
    while work:
        end, depth = work.pop()
        if end in cycles.steps:
            ends.append((end, depth))
            continue
        for source, target in pairs:
            if source.startswith(end):
                deeper = depth + len(source) - len(end)
                goal = end_of(cycles, start_in(cycles.cut, target))
                if goal == first:
                    again = deeper
                else:
                    work.append((goal, deeper))
    return ends, again


def end_of(cycles, piece):
    """Return the piece to which a piece leads, on a cycle that does not repel or taken to none."""
    held = cycles.holder(piece)
    while piece in cycles.steps and (held is None or held[0] == REPELLING):
        piece = cycles.steps[piece]
        held = cycles.holder(piece)
    return piece


def portion(depth, again):
    """Return the share of a piece of so many signs, and of all that it is again so many signs deeper, if not 0."""
    if again == 0:
        return 1, 1 << depth
    return 1 << again, ((1 << again) - 1) << depth
