"""Rings of ties: the beat, a slow ring, prices and paces."""

from waitwheel.rounds import next_times
from waitwheel.walks import reached


def common_divisor(one, other):
    while other != 0:
        rest = one % other
        one = other
        other = rest
    return one


def lowest_terms(mean):
    divisor = common_divisor(abs(mean[0]), mean[1])
    return (mean[0] // divisor, mean[1] // divisor)


def is_above(mean, other):
    # Bottoms are above nought, so both sides may be multiplied by them.
    return mean[0] * other[1] > other[0] * mean[1]


def greatest(means):
    best = means[0]
    for mean in means:
        if is_above(mean, best):
            best = mean
    return best


def least(means):
    best = means[0]
    for mean in means:
        if is_above(best, mean):
            best = mean
    return best


def gain_means(weights):
    # The gain from walks of k ties to the longest ones, by how many ties these have more.
    many = len(weights) - 1
    return [(weights[many] - weights[k], many - k) for k in range(many)]


def end_means(wheel):
    # Karp's theorem: with walks of as many ties as there are deeds, a deed's least gain is never above the
    # greatest mean of the rings that lead to the deed, and at some deed of a ring of that mean it comes up to it.
    # Each deed waits for one, so walks of every length end at each; times from nought on are their weights.
    size = wheel.size()
    rows = [[0] * size]
    for k in range(size):
        rows.append(next_times(wheel, rows[k]))
    return [least(gain_means([row[b] for row in rows])) for b in range(size)]


def beat(wheel):
    return lowest_terms(greatest(end_means(wheel)))


def paces(wheel):
    size = wheel.size()
    means = end_means(wheel)
    back = [[a for a, w in wheel.waits(b)] for b in range(size)]
    told = []
    for b in range(size):
        leads = reached(back, b)
        told.append(lowest_terms(greatest([means[a] for a in range(size) if leads[a]])))
    return told


def surplus(w, mean):
    return w * mean[1] - mean[0]


def prices_for(wheel, mean):
    # No ring has a surplus above nought, so a walk that visits no deed twice is among the heaviest to each deed,
    # and as many passes as there are deeds find it.
    told = [0] * wheel.size()
    for k in range(wheel.size()):
        for a, b, w in wheel.ties():
            told[b] = max(told[b], told[a] + surplus(w, mean))
    return told


def prices(wheel):
    return prices_for(wheel, beat(wheel))


def shows(wheel, top, bottom, told):
    if bottom <= 0:
        return False
    return all([told[b] >= told[a] + surplus(w, (top, bottom)) for a, b, w in wheel.ties()])


def tight_waits(wheel):
    mean = beat(wheel)
    told = prices_for(wheel, mean)
    tight = []
    for b in range(wheel.size()):
        tight.append([a for a, w in wheel.waits(b) if told[a] + surplus(w, mean) == told[b]])
    return tight


def endless_waits(waits):
    # A deed from which one can't go back for ever lies on no ring and behind none.
    left = waits
    for k in range(len(waits)):
        left = [[a for a in row if left[a] != []] for row in left]
    return left


def ring_behind(waits, start):
    backwards = [start]
    ahead = waits[start][0]
    while ahead not in backwards:
        backwards.append(ahead)
        ahead = waits[ahead][0]
    return list(reversed(backwards[backwards.index(ahead):]))


def slow_ring(wheel):
    # The surpluses of a ring of mean beat come to nought, so the prices leave no room at any of its ties;
    # and a ring of ties without room has the beat for its mean.
    waits = endless_waits(tight_waits(wheel))
    starts = [b for b in range(wheel.size()) if waits[b] != []]
    return ring_behind(waits, starts[0])
