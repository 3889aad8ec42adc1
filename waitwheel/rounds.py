"""Times round after round, and how a delay goes on."""

from waitwheel.walks import joined_often, one_tie_weights
from waitwheel.wheel import check_deed


def next_time(waits, times):
    return max([times[a] + w for a, w in waits])


def next_times(wheel, times):
    return [next_time(wheel.waits(b), times) for b in range(wheel.size())]


def after(wheel, times, rounds):
    # Times are joined with heaviest weights just as a row of weights is.
    return joined_often([list(times)], one_tie_weights(wheel), rounds)[0]


def delayed(times, a, d):
    later = list(times)
    later[a] = later[a] + d
    return later


def late(wheel, times, a, d, rounds):
    check_deed(wheel.size(), a)
    # Both runs go through one joining, so that the ties' powers are made once.
    rows = joined_often([times, delayed(times, a, d)], one_tie_weights(wheel), rounds)
    return [later - told for told, later in zip(rows[0], rows[1])]
