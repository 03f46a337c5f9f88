"""Lists of pairs (source, target): their check, and how they are reduced, turned around, joined and followed.

All functions but the first two take reduced pairs, ascending by their sources.
"""

from halfcuts.checks import is_word
from halfcuts.errors import InvalidPairs
from halfcuts.words import common_cut, is_cut


def check_pairs(pairs):
    """Raise InvalidPairs for a string that is no word, then for sources or targets that make up no cut."""
    for index, (source, target) in enumerate(pairs):
        if not is_word(source) or not is_word(target):
            raise InvalidPairs(index)
    if not is_cut(sorted(sources_of(pairs))) or not is_cut(sorted(targets_of(pairs))):
        raise InvalidPairs(None)


def reduced(pairs):
    """Return the reduced pairs of an edit, ascending by their sources."""
    out = []
    for pair in sorted(pairs):
        out.append(pair)
        while len(out) > 1 and are_halves(out[-2], out[-1]):
            source, target = out.pop()
            out.pop()
            out.append((source[:-1], target[:-1]))
    return out


def are_halves(low, high):
    """Tell whether two pairs take the two halves of one piece to those of another one, in their order."""
    return is_next_half(low[0], high[0]) and is_next_half(low[1], high[1])


def is_next_half(low, high):
    """Tell whether two words are the halves of one piece, in their order."""
    return high.endswith("1") and low == high[:-1] + "0"


def sources_of(pairs):
    """Return the list of the sources, in the order of the pairs."""
    return [source for source, _ in pairs]


def targets_of(pairs):
    """Return the list of the targets, in the order of the pairs."""
    return [target for _, target in pairs]


def inverted(pairs):
    """Return the pairs of the inverse, ascending by their sources."""
    return sorted([(target, source) for source, target in pairs])


def joined(first, second):
    """Return pairs, perhaps not reduced, that do what the first ones do, then what the second ones do."""
    back = inverted(first)
    middles = common_cut(sources_of(back), sources_of(second))
    return [(taken(back, word), taken(second, word)) for word in middles]


def taken(pairs, word):
    """Return the piece to which a piece is taken, None if it begins with no source."""
    source, target = pair_for(pairs, word)
    if not word.startswith(source):
        return None
    return target + word[len(source):]


def pair_for(pairs, word):
    """Return the only pair whose source a word may begin with: the last one that is not behind it."""
    low, high = 0, len(pairs)
    while high - low > 1:
        middle = (low + high) // 2
        if pairs[middle][0] > word:
            high = middle
        else:
            low = middle
    return pairs[low]
