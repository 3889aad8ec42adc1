"""What several tests share: wheels to try, and slow ways to the same answers."""

import random
from fractions import Fraction

from waitwheel.wheel import Wheel

THIRTY = 10 ** 30 - 1


def random_ties(rng, size, most, share):
    """Ties in mixed order; each deed waits for one at least, share in a hundred of the pairs are tied."""
    pairs = {(a, b) for a in range(size) for b in range(size) if rng.randrange(100) < share}
    for b in range(size):
        if not any((a, b) in pairs for a in range(size)):
            pairs.add((rng.randrange(size), b))
    ties = [(a, b, rng.randint(-most, most)) for a, b in sorted(pairs)]
    rng.shuffle(ties)
    return ties


def random_wheels(seed, many, least, most_size, most=9):
    rng = random.Random(seed)
    for _ in range(many):
        size = rng.randint(least, most_size)
        share = rng.choice([0, 15, 30, 60, 100])
        yield Wheel(size, random_ties(rng, size, most, share))


def ring_ties(size, weight=1):
    return [(a, (a + 1) % size, weight) for a in range(size)]


def whole_wheels(seed, many, least, most_size, most=9):
    """Wheels in one piece: a ring through all deeds in mixed order, and some ties beside it."""
    rng = random.Random(seed)
    for _ in range(many):
        size = rng.randint(least, most_size)
        around = list(range(size))
        rng.shuffle(around)
        pairs = {(around[k], around[k - 1]) for k in range(size)}
        share = rng.choice([0, 5, 30, 100])
        pairs |= {(a, b) for a in range(size) for b in range(size) if rng.randrange(100) < share}
        yield Wheel(size, [(a, b, rng.randint(-most, most)) for a, b in sorted(pairs)])


def random_times(rng, size, most=9):
    return [rng.randint(-most, most) for _ in range(size)]


def next_by_ties(wheel, times):
    """The next round straight from the ties, each sum looked at by itself."""
    told = {}
    for a, b, w in wheel.ties():
        if b not in told or times[a] + w > told[b]:
            told[b] = times[a] + w
    return [told[b] for b in range(wheel.size())]


def rounds_by_ties(wheel, times, many):
    """The times behind 0, 1, 2 .. so many rounds."""
    told = [list(times)]
    for _ in range(many):
        told.append(next_by_ties(wheel, told[-1]))
    return told


def all_rings(wheel):
    """Every ring of a small wheel, each once, its least deed first."""
    onward = {a: [] for a in range(wheel.size())}
    for a, b, _ in wheel.ties():
        onward[a].append(b)
    rings = []
    paths = [[a] for a in range(wheel.size())]
    while paths:
        path = paths.pop()
        for b in onward[path[-1]]:
            if b == path[0]:
                rings.append(path)
            elif b > path[0] and b not in path:
                paths.append(path + [b])
    return rings


def mean_of(wheel, ring):
    """A ring's mean; a KeyError where one of its steps, or the step back to its first deed, is no tie."""
    return Fraction(weight_of(wheel, ring + ring[:1]), len(ring))


def led_from(wheel, deed):
    """The deeds from which a walk leads to the deed, itself among them."""
    found = {deed}
    for _ in range(wheel.size()):
        found |= {a for a, b, _ in wheel.ties() if b in found}
    return found


def all_walks(wheel, many):
    """Every walk of so many ties with its weight, gone through one by one."""
    walks = [([a], 0) for a in range(wheel.size())]
    for _ in range(many):
        walks = [
            (walk + [b], weight + w)
            for walk, weight in walks
            for a, b, w in wheel.ties()
            if a == walk[-1]
        ]
    return walks


def heaviest_by_all_walks(wheel, many):
    rows = [[None] * wheel.size() for _ in range(wheel.size())]
    for walk, weight in all_walks(wheel, many):
        told = rows[walk[0]][walk[-1]]
        rows[walk[0]][walk[-1]] = weight if told is None else max(told, weight)
    return rows


def heaviest_tie_by_tie(wheel, many):
    """The heaviest weights with one tie more at a time: for more ties than all walks can be gone through."""
    size = wheel.size()
    rows = [[0 if a == b else None for b in range(size)] for a in range(size)]
    waits = [wheel.waits(b) for b in range(size)]
    for _ in range(many):
        rows = [
            [max((row[a] + w for a, w in waits[b] if row[a] is not None), default=None) for b in range(size)]
            for row in rows
        ]
    return rows


def weight_of(wheel, walk):
    """The weight of a walk; a KeyError where one of its steps is no tie."""
    weights = {(a, b): w for a, b, w in wheel.ties()}
    return sum(weights[pair] for pair in zip(walk, walk[1:]))
