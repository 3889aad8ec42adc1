"""From which round on a wheel turns, and by how much."""

from waitwheel.errors import NotOnePiece, TooSlow
from waitwheel.rounds import next_times
from waitwheel.walks import one_piece

MOST_ROUNDS = 600


def spread(times):
    return tuple([time - times[0] for time in times])


def turning(wheel, times):
    if not one_piece(wheel):
        raise NotOnePiece("no walk leads from some deed to some other")
    # Times all later by one number stay so, hence the spread alone tells how it goes on: the first spread
    # that comes again closes the circle, and first and rounds together are the round it comes again in.
    seen = {}
    here = list(times)
    for k in range(MOST_ROUNDS + 1):
        shape = spread(here)
        if shape in seen:
            first = seen[shape][0]
            return (first, k - first, here[0] - seen[shape][1])
        seen[shape] = (k, here[0])
        here = next_times(wheel, here)
    raise TooSlow("first round and rounds come to more than 600 together")
