"""The cycles of an edit: what comes back, what is drawn and what repels, found by halving as little as possible.

The cut begins as the whole clip. As long as pieces, each taken to the next one, lead from a piece that the inverse
takes to none to a piece that the edit takes to none, all of them are halved. The last one is the beginning of several
sources, a different one each time, so there is an end to it. In the cut that is settled then, a piece is taken to a
piece of the cut, or to a longer piece that begins with one, or to none; so it is by the inverse, too.

Where the steps from piece to piece come around, either nothing is added, and all that begins with these pieces comes
back; or words are added, and all of it is drawn to the moments of a cycle. The same for the inverse tells what repels.
Every moment that is on none of these cycles comes into a piece of a drawing one.
"""

from math import lcm

from halfcuts.checks import first_signs
from halfcuts.moments import plain
from halfcuts.pairs import inverted, taken

# What a cycle of pieces does, as the sign of the pull on its moments.
WHOLE = 0
DRAWING = -1
REPELLING = 1


class Cycles:
    """The settled cut of an edit and its cycles, each a list of tuples (piece, rest) from its least piece on.

    Once around the cycle, a piece is taken to the piece followed by the rest; of a repelling cycle the inverse
    takes it so. Rests are empty for the cycles of pieces that come back whole. Each list of cycles ascends.
    """

    def __init__(self, edit):
        forth = edit.pairs
        back = inverted(forth)
        self.cut = settled_cut(forth, back)
        self.steps = steps_on(self.cut, forth)
        found = cycles_on(self.steps, forth)
        self.whole = [cycle for cycle in found if cycle[0][1] == ""]
        self.drawing = [cycle for cycle in found if cycle[0][1] != ""]
        # The inverse goes around the other way: all but the first piece are turned.
        turned = [cycle for cycle in cycles_on(steps_on(self.cut, back), back) if cycle[0][1] != ""]
        self.repelling = [cycle[:1] + cycle[:0:-1] for cycle in turned]
        self.depth = max([len(piece) for piece in self.cut])
        self._holders = {}
        self.hold(self.whole, WHOLE)
        self.hold(self.drawing, DRAWING)
        self.hold(self.repelling, REPELLING)

    def hold(self, cycles, kind):
        """Note for all pieces of cycles where they are."""
        for number, cycle in enumerate(cycles):
            for index, (piece, _) in enumerate(cycle):
                self._holders[piece] = (kind, number, index)

    def holder(self, word):
        """Return (kind, number, index) of the piece on a cycle with which a word begins, None if there is none."""
        return self._holders.get(start_in(self._holders, word))

    def order(self):
        """Return the order of the edit, None if it has none."""
        if self.drawing:
            return None
        found = 1
        for cycle in self.whole:
            found = lcm(found, len(cycle))
        return found

    def return_of(self, moment):
        """Return (n, pull) if a moment comes back after n repetitions, None if it does not come back."""
        found = self.holder(first_signs(moment, self.depth))
        if found is None:
            return None
        kind, number, index = found
        if kind == WHOLE:
            return len(self.whole[number]), 0
        cycle = self.drawing[number] if kind == DRAWING else self.repelling[number]
        if plain(moment) != plain(cycle[index]):
            return None
        return len(cycle), kind * len(cycle[index][1])


def settled_cut(forth, back):
    """Return the settled cut of an edit with these pairs, with those of its inverse, as the keys of a dict."""
    cut = {"": True}
    while way := way_to_halve(cut, forth, back):
        for piece in way:
            del cut[piece]
            cut[piece + "0"] = True
            cut[piece + "1"] = True
    return cut


def way_to_halve(cut, forth, back):
    """Return the pieces from one that comes from none to one that is taken to none; an empty list if there are none."""
    for piece in cut:
        if taken(forth, piece) is None:
            way = way_back(cut, back, piece)
            if taken(back, way[-1]) is None:
                return way
    return []


def way_back(cut, back, piece):
    """Return a piece that is taken to none and those of the cut that lead to it, the last one first."""
    # It does not come around: the first piece of a way that did would be taken to a piece.
    way = [piece]
    before = taken(back, piece)
    while before in cut:
        way.append(before)
        before = taken(back, before)
    return way


def steps_on(cut, pairs):
    """Return a dict of the pieces of a settled cut that are taken to pieces, each with the piece of the cut there."""
    steps = {}
    for piece in cut:
        goal = taken(pairs, piece)
        if goal is not None:
            steps[piece] = start_in(cut, goal)
    return steps


def start_in(cut, word):
    """Return the key of a dict, of which no key begins with another, with which a word begins, or None."""
    for many in range(len(word) + 1):
        if word[:many] in cut:
            return word[:many]
    return None


def cycles_on(steps, pairs):
    """Return the ascending list of the cycles around which the steps of an edit lead."""
    found = []
    first_walks = {}
    for number, piece in enumerate(list(steps)):
        at = piece
        while at in steps and at not in first_walks:
            first_walks[at] = number
            at = steps[at]
        # A walk that ends where it has been itself has come around.
        if first_walks.get(at) == number:
            found.append(with_rests(pieces_around(steps, at), pairs))
    return sorted(found)


def pieces_around(steps, start):
    """Return the pieces of the cycle on which a piece is, from the least one on."""
    pieces = [start]
    while steps[pieces[-1]] != start:
        pieces.append(steps[pieces[-1]])
    least = pieces.index(min(pieces))
    return pieces[least:] + pieces[:least]


def with_rests(pieces, pairs):
    """Return tuples of the pieces of a cycle and what is behind each of them once it has gone around."""
    added = []
    for index, piece in enumerate(pieces):
        follower = pieces[(index + 1) % len(pieces)]
        added.append(taken(pairs, piece)[len(follower):])
    # What is added later stands in front.
    rest = "".join(added[::-1])
    out = []
    for piece, word in zip(pieces, added):
        out.append((piece, rest))
        rest = word + rest[:len(rest) - len(word)]
    return out
