"""Frequent: the things that come often, each with a low and a high for its weight."""

from sketchbounds.errors import TooFine, Unlike


class Frequent:
    def __init__(self, room):
        self.room = room
        self.total = 0
        self.lost = 0
        self.counts = {}

    def add(self, thing, weight):
        self.total = self.total + weight
        # A new dict each time: counts that somebody read earlier stay as they were told.
        grown = dict(self.counts)
        grown[thing] = grown.get(thing, 0) + weight
        self.fit(grown)

    def fit(self, grown):
        cut = cut_of(grown, self.room)
        self.counts = lowered(grown, cut)
        self.lost = self.lost + cut

    def low(self, thing):
        return self.counts.get(thing, 0)

    def high(self, thing):
        return self.low(thing) + self.lost

    def often(self, part, whole):
        # A thing without a count weighs at most lost, and room + 1 times lost is at most total;
        # with a finer share than this such a thing might be missing.
        if part * (self.room + 1) < whole:
            raise TooFine("the share is too fine for the room")
        told = []
        for thing in sorted(self.counts):
            high = self.high(thing)
            if high * whole > self.total * part:
                told.append((thing, self.low(thing), high))
        return told


def cut_of(counts, room):
    if len(counts) <= room:
        return 0
    falling = sorted(counts.values(), reverse=True)
    return falling[room]


def lowered(counts, cut):
    left = {}
    for thing, count in counts.items():
        if count > cut:
            left[thing] = count - cut
    return left


def poured_frequent(one, other):
    if one.room != other.room:
        raise Unlike("the rooms differ")
    poured = Frequent(one.room)
    poured.total = one.total + other.total
    poured.lost = one.lost + other.lost
    together = dict(one.counts)
    for thing, count in other.counts.items():
        together[thing] = together.get(thing, 0) + count
    poured.fit(together)
    return poured
