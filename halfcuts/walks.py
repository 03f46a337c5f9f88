"""Moments that an edit takes on and on, step by step, until they are on a cycle or drawn to one."""

from halfcuts.checks import signs_between
from halfcuts.cycles import DRAWING, Cycles
from halfcuts.pairs import pair_for, sources_of


class Walk:
    """A moment on its way: a word, and behind it the sequence of the first moment from a place on."""

    def __init__(self, edit, moment):
        self.moves = edit.pairs
        self.longest = max([len(source) for source in sources_of(self.moves)])
        self.origin = moment
        self.word = ""
        self.place = 0

    def read(self, many):
        """Return the first signs of the moment, as many as asked for."""
        missing = many - len(self.word)
        if missing > 0:
            self.word += signs_between(self.origin, self.place, self.place + missing)
            self.place += missing
        return self.word[:many]

    def step(self, many):
        """Do the edit so many times."""
        for _ in range(many):
            source, target = pair_for(self.moves, self.read(self.longest))
            self.word = target + self.word[len(source):]


def walk_until_drawn(cycles, walk):
    """Go on until a moment that does not come back is in a drawn piece; return (steps, number, index) of the cycle."""
    steps = 0
    found = cycles.holder(walk.read(cycles.depth))
    while found is None or found[0] != DRAWING:
        walk.step(1)
        steps += 1
        found = cycles.holder(walk.read(cycles.depth))
    return steps, found[1], found[2]


def course(edit, moment, many):
    """Return two lists of words, the first signs after all repetitions: the first ones, then those that recur."""
    cycles = Cycles(edit)
    back = cycles.return_of(moment)
    if back is not None:
        return [], starts(Walk(edit, moment), back[0], many)
    steps, number, _ = walk_until_drawn(cycles, Walk(edit, moment))
    cycle = cycles.drawing[number]
    # Each time around puts the rest once more between a piece of the cycle and what is behind it.
    rounds = many // len(cycle[0][1]) + 1
    words = starts(Walk(edit, moment), steps + (rounds + 1) * len(cycle), many)
    return words[:-len(cycle)], words[-len(cycle):]


def starts(walk, times, many):
    """Return the first signs of the moment now and after each step, so many times."""
    out = []
    for _ in range(times):
        out.append(walk.read(many))
        walk.step(1)
    return out
