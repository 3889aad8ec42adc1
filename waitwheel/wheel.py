"""The wheel: its deeds and the ties between them."""

from waitwheel.errors import Idle, NoDeed, TieTwice

MOST_DEEDS = 40


def check_deed(size, deed):
    # A number below nought would pass as an index, so it is refused by name.
    if deed < 0 or deed >= size:
        raise NoDeed("there is no deed of this number")


def check_ties(size, ties):
    # One walk for both faults: the first wrong tie in the list decides which is told.
    tied = {}
    for a, b, w in ties:
        check_deed(size, a)
        check_deed(size, b)
        if (a, b) in tied:
            raise TieTwice("there is a tie between these two deeds already")
        tied[(a, b)] = True


class Wheel:
    def __init__(self, size, ties):
        if size < 1 or size > MOST_DEEDS:
            raise NoDeed("a wheel has 1 to 40 deeds")
        check_ties(size, ties)
        self.deeds = size
        self.in_order = sorted([(a, b, w) for a, b, w in ties])
        self.into = [[] for b in range(size)]
        for a, b, w in self.in_order:
            self.into[b].append((a, w))
        if [] in self.into:
            raise Idle("a deed waits for none")

    def size(self):
        return self.deeds

    def ties(self):
        return list(self.in_order)

    def waits(self, b):
        check_deed(self.deeds, b)
        return list(self.into[b])
