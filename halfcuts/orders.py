"""Whether an edit has an order, and the proof: a cut that it permutes, or a piece that is drawn into itself."""

from halfcuts.checks import check_at_least, check_word
from halfcuts.cycles import Cycles
from halfcuts.pairs import pair_for, taken
from halfcuts.permuted import permuted_cycles
from halfcuts.words import is_cut


def order(edit):
    """Return the order of an edit, None if it has none."""
    return Cycles(edit).order()


def permuted_cut(edit):
    """Return the coarsest cut that an edit permutes, None if there is none."""
    cycles = Cycles(edit)
    if cycles.drawing:
        return None
    return sorted(cycles.cut)


def cycle_lengths(edit):
    """Return the ascending list, each once, of the lengths of the cycles of pieces of the coarsest permuted cut."""
    return sorted({len(cycle) for cycle in permuted_cycles(edit)})


def is_permuted(edit, words):
    """Tell whether a list of strings is a cut that an edit permutes."""
    if not is_cut(words):
        return False
    pairs = edit.pairs
    images = [taken(pairs, word) for word in words]
    return None not in images and sorted(images) == words


def is_drawn(edit, piece, steps, rest):
    """Tell whether so many steps take a piece to the piece followed by a rest that is not empty."""
    check_word(piece)
    check_at_least(steps, 1)
    check_word(rest)
    return rest != "" and piece_after(edit, piece, steps) == piece + rest


def piece_after(edit, piece, steps):
    """Return the piece to which so many steps take a piece, None if one of them takes it to none."""
    pairs = edit.pairs
    longest = max([len(source) for source, _ in pairs])
    # The signs lie in reverse, so that a step touches only those that it changes, however many there are.
    signs = list(piece[::-1])
    for _ in range(steps):
        start = "".join(signs[:-longest - 1:-1])
        source, target = pair_for(pairs, start)
        if not start.startswith(source):
            return None
        del signs[len(signs) - len(source):]
        signs.extend(target[::-1])
    return "".join(signs[::-1])


def drawn_piece(edit):
    """Return (piece, steps, rest) for the least moment on a drawing cycle, None if the edit has an order."""
    drawing = Cycles(edit).drawing
    if not drawing:
        return None
    # Shorter pieces do not do: they were halved because they are taken to none before they come around.
    piece, rest = drawing[0][0]
    return piece, len(drawing[0]), rest
