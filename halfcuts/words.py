"""Words, the pieces that they stand for, and the cuts that pieces make up."""

from halfcuts.checks import check_moment, check_word, first_signs, is_word


def is_cut(words):
    """Tell whether a list of strings is a cut."""
    start = ""
    for word in words:
        if start is None or not is_word(word) or not is_first_piece(word, start):
            return False
        start = start_behind(word)
    return start is None


def is_first_piece(word, start):
    """Tell whether a piece is the piece `start` or lies at the very beginning of it."""
    return word.startswith(start) and "1" not in word[len(start):]


def start_behind(word):
    """Return the largest piece that begins where a piece ends, None at the end of the clip."""
    stem = word.rstrip("1")
    return stem[:-1] + "1" if stem else None


def cut_with(words):
    """Return the cut with the fewest pieces that has all words of a list, None if there is none."""
    for word in words:
        check_word(word)
    stems = stems_of(words)
    # A word that another one begins with would itself have to be cut.
    if any([word in stems for word in words]):
        return None
    return cut_of(stems)


def stems_of(words):
    """Return a dict of True whose keys are all words that a word of the list is longer than and begins with."""
    stems = {}
    for word in words:
        stem = word
        while stem and stem[:-1] not in stems:
            stem = stem[:-1]
            stems[stem] = True
    return stems


def cut_of(stems):
    """Return the cut in which exactly the keys of a dict have been cut into halves."""
    if not stems:
        return [""]
    return sorted([stem + sign for stem in stems for sign in "01" if stem + sign not in stems])


def halved(cut, piece):
    """Return the cut in which a piece is replaced by its two halves, unchanged if it is not in it."""
    check_word(piece)
    out = []
    for word in cut:
        if word == piece:
            out.extend([word + "0", word + "1"])
        else:
            out.append(word)
    return out


def common_cut(cut, other):
    """Return the cut with the fewest pieces all of which begin with a piece of each of two cuts."""
    return cut_of(stems_of([*cut, *other]))


def piece_of(cut, moment):
    """Return the piece of a cut with which a moment begins."""
    check_moment(moment)
    start = first_signs(moment, max([len(word) for word in cut]))
    return [word for word in cut if start.startswith(word)][0]
