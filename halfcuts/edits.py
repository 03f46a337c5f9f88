"""Edits: each takes the pieces of a cut to those of another one."""

from halfcuts.checks import check_moment, check_word, first_signs, signs_behind
from halfcuts.cycles import Cycles
from halfcuts.errors import InvalidExponent
from halfcuts.moments import plain
from halfcuts.pairs import check_pairs, inverted, joined, pair_for, reduced, sources_of, taken, targets_of

# Exponents up to this one, and down to its negative, are for every edit.
MOST = 12


class Edit:
    """An edit, made of pairs of words in any order, of which it keeps the reduced ones."""

    def __init__(self, pairs):
        check_pairs(pairs)
        self._pairs = reduced([(source, target) for source, target in pairs])

    @property
    def pairs(self):
        """The list of the reduced pairs, ascending by their sources."""
        return list(self._pairs)

    @property
    def sources(self):
        """The cut of the sources."""
        return sources_of(self._pairs)

    @property
    def targets(self):
        """The cut of the targets, ascending as every cut."""
        return sorted(targets_of(self._pairs))

    def __len__(self):
        return len(self._pairs)

    def __eq__(self, other):
        return isinstance(other, Edit) and self._pairs == other._pairs

    def __add__(self, other):
        return Edit(joined(self._pairs, other._pairs))

    def __neg__(self):
        return Edit(inverted(self._pairs))

    def __call__(self, moment):
        check_moment(moment)
        longest = max([len(source) for source, _ in self._pairs])
        source, target = pair_for(self._pairs, first_signs(moment, longest))
        head, ring = signs_behind(moment, len(source))
        return plain((target + head, ring))


def identity():
    """Return the edit that takes every moment to itself."""
    return Edit([("", "")])


def kind_of(edit):
    """Return the first of the words `same`, `retime`, `loop` and `shuffle` that fits an edit."""
    targets = targets_of(edit.pairs)
    ascending = edit.targets
    if targets == [""]:
        return "same"
    if targets == ascending:
        return "retime"
    least = targets.index(ascending[0])
    if targets[least:] + targets[:least] == ascending:
        return "loop"
    return "shuffle"


def image(edit, word):
    """Return the piece to which an edit takes a piece, None if it takes it to none."""
    check_word(word)
    return taken(edit.pairs, word)


def power(edit, exponent):
    """Return the edit done so many times, for negative numbers the inverse."""
    if exponent < -MOST or exponent > MOST:
        many = Cycles(edit).order()
        if many is None:
            raise InvalidExponent(exponent)
        exponent = exponent % many
    if exponent < 0:
        return repeated(-edit, -exponent)
    return repeated(edit, exponent)


def repeated(edit, many):
    """Return the edit done so many times, at least 0."""
    if many == 0:
        return identity()
    half = repeated(edit, many // 2)
    if many % 2 == 0:
        return half + half
    return half + half + edit
