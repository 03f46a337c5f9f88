"""What an edit does, told step by step from a list of its pairs: slow, plain, and without the package.

The tests compare the package with these functions, on all small edits and on many larger ones.
"""

import random
from itertools import permutations, product

from tests.samples import all_cuts, start_of


def cuts_of(many):
    """Return all cuts of so many pieces."""
    return [cut for cut in all_cuts(many - 1) if len(cut) == many]


def is_reduced(pairs):
    return not any(
        low[0] + "|" + low[1] == high[0][:-1] + "0|" + high[1][:-1] + "0" and high[0][-1:] == high[1][-1:] == "1"
        for low in pairs for high in pairs
    )


def all_pairs(many):
    """Return the reduced pairs of all edits with so many of them."""
    found = []
    for cut in cuts_of(many):
        for other in cuts_of(many):
            found.extend([list(zip(cut, order)) for order in permutations(other)])
    return [pairs for pairs in found if is_reduced(pairs)]


SMALL = [pairs for many in (1, 2, 3) for pairs in all_pairs(many)]
FOUR = all_pairs(4)


def random_cut(chance, many, depth_first):
    cut = [""]
    while len(cut) < many:
        deepest = max(len(word) for word in cut)
        some = [word for word in cut if len(word) == deepest] if chance.random() < depth_first else cut
        word = chance.choice(some)
        cut.remove(word)
        cut.extend([word + "0", word + "1"])
    return sorted(cut)


def some_pairs(seed, many, times):
    """Return the pairs of edits made of so many pairs each, always the same ones for a seed."""
    chance = random.Random(seed)
    found = []
    for _ in range(times):
        cut = random_cut(chance, many, chance.random())
        other = random_cut(chance, many, chance.random())
        kind = chance.choice(["any", "any", "any", "turned", "as it is", "same cut"])
        if kind == "same cut":
            other = list(cut)
        if kind in ("any", "same cut"):
            chance.shuffle(other)
        if kind == "turned":
            start = chance.randrange(many)
            other = other[start:] + other[:start]
        found.append(list(zip(cut, other)))
    return found


def some_loops(seed, many, times):
    """Return the pairs of loops made of so many pairs each, always the same ones for a seed."""
    chance = random.Random(seed)
    found = []
    for _ in range(times):
        cut = random_cut(chance, many, chance.random())
        other = cut if chance.random() < 0.3 else random_cut(chance, many, chance.random())
        start = chance.randrange(many)
        found.append(list(zip(cut, other[start:] + other[:start])))
    return found


# Edits of 7 pairs that are hard for their size: a clock of 64 pieces, a cycle of 48 pieces, drawing and repelling
# cycles of 16 moments, and orders of 156 and 272.
CLOCK = [("1" * many + "0", "0" * many + "1") for many in range(6)] + [("111111", "000000")]
LONG_CYCLES = [
    sorted(CLOCK),
    [("000000", "11111"), ("000001", "111100"), ("00001", "111101"), ("0001", "1110"), ("001", "110"), ("01", "10"),
     ("1", "0")],
    [("00", "11"), ("0100", "1011"), ("010100", "10100"), ("010101", "101010"), ("01011", "101011"), ("011", "100"),
     ("1", "0")],
    [("0", "1"), ("100000", "01101"), ("100001", "01111"), ("10001", "01100"), ("1001", "01110"), ("101", "010"),
     ("11", "00")],
    [("00", "01"), ("01", "11"), ("10", "00000"), ("110", "001"), ("1110", "0001"), ("11110", "10"),
     ("11111", "00001")],
    [("0", "10"), ("100", "01"), ("1010", "001"), ("10110", "0001"), ("101110", "11"), ("101111", "00001"),
     ("11", "00000")],
]


def plainly(moment):
    """Return the plain form, by trying: the shortest ring, then the shortest head."""
    head, ring = moment
    for many in range(1, len(ring) + 1):
        if len(ring) % many == 0 and ring[:many] * (len(ring) // many) == ring:
            ring = ring[:many]
            break
    while head and head[-1] == ring[-1]:
        head, ring = head[:-1], ring[-1] + ring[:-1]
    return head, ring


def moved(pairs, moment):
    """Return the moment to which the pairs take a moment, in plain form."""
    head, ring = moment
    longest = max(len(source) for source, _ in pairs)
    while len(head) < longest:
        head += ring
    [(source, target)] = [pair for pair in pairs if head.startswith(pair[0])]
    return plainly((target + head[len(source):], ring))


def way_of(pairs, moment, steps):
    """Return the moments after 0 to so many repetitions."""
    way = [plainly(moment)]
    for _ in range(steps):
        way.append(moved(pairs, way[-1]))
    return way


def piece_moved(pairs, word):
    found = [target + word[len(source):] for source, target in pairs if word.startswith(source)]
    return found[0] if found else None


def piece_way(pairs, word, steps):
    """Return the piece after so many steps, None if one of them takes it to none."""
    for _ in range(steps):
        if word is not None:
            word = piece_moved(pairs, word)
    return word


def back_after(pairs, moment, most=70):
    """Return after how many repetitions a moment comes back, None if it does not within so many."""
    way = way_of(pairs, moment, most)
    return way.index(way[0], 1) if way[0] in way[1:] else None


def draws(pairs, moment, many):
    """Tell whether a moment that comes back after so many repetitions is on a drawing cycle."""
    for length in range(80):
        word = start_of(moment, length)
        goal = piece_way(pairs, word, many)
        if goal is not None:
            # From some length on the pieces are taken to pieces, and all of them are lengthened by as much.
            return len(goal) > len(word)
    raise AssertionError((pairs, moment))


def turned(pairs):
    return sorted((target, source) for source, target in pairs)


def agreement(first, second, many=400):
    """Return in how many of their first places two moments are the same."""
    one, two = start_of(first, many), start_of(second, many)
    return next((place for place in range(many) if one[place] != two[place]), many)


def permutes(pairs, cut):
    goals = [piece_moved(pairs, word) for word in cut]
    return None not in goals and sorted(goals) == cut


def coarsest_permuted(pairs, word=""):
    """Return the coarsest cut, below a word, of pieces that come back whole; only for edits with an order."""
    goal = piece_moved(pairs, word)
    while goal is not None and goal != word:
        goal = piece_moved(pairs, goal)
    if goal is None:
        return coarsest_permuted(pairs, word + "0") + coarsest_permuted(pairs, word + "1")
    return [word]


def cycles_of_pieces(pairs, cut):
    """Return the lengths, ascending, of all cycles of the pieces of a cut that is permuted."""
    found = []
    for word in cut:
        cycle = [word]
        while piece_moved(pairs, cycle[-1]) != word:
            cycle.append(piece_moved(pairs, cycle[-1]))
        if word == min(cycle):
            found.append(len(cycle))
    return sorted(found)


def periods(pairs, deepest=6):
    """Return the numbers of repetitions, ascending, after which moments come back, of one in each piece so deep."""
    words = ["".join(signs) for signs in product("01", repeat=deepest)]
    return sorted({back_after(pairs, (word, "0")) for word in words})


def turns_around(pairs, moment, many):
    """Return how many of so many steps from a moment on are turns."""
    start = start_of(moved(pairs, ("", "0")), 300)
    way = way_of(pairs, moment, many)
    return sum(start_of(image, 300) < start for image in way[1:])


def tails(moment):
    """Return all that is left of a moment without some of its first places."""
    head, ring = moment
    starts = [head[place:] for place in range(len(head))]
    return {plainly((start, ring)) for start in starts} | {
        plainly(("", ring[place:] + ring[:place])) for place in range(len(ring))
    }


def can_be_taken(pairs):
    """Tell, from what an edit can do alone, whether one takes the first moments of pairs to the second ones."""
    moves = {(plainly(first), plainly(second)) for first, second in pairs}
    return (
        all(tails(first) & tails(second) for first, second in moves)
        and len({first for first, _ in moves}) == len(moves)
        and len({second for _, second in moves}) == len(moves)
    )


def seen_through(pairs, between, moment):
    """Return where the pairs take a moment, seen through others: back by these, then as they do, then by these."""
    return moved(between, moved(pairs, moved(turned(between), moment)))
