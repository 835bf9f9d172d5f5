"""Distinct: how many different things came, kept as those of the highest marks."""

from sketchbounds.errors import Unlike
from sketchbounds.marks import MOST, mark


class Distinct:
    def __init__(self, room):
        self.room = room
        self.arrivals = 0
        self.level = 0
        self.kept = []

    def add(self, thing):
        self.arrivals = self.arrivals + 1
        if mark(thing) >= self.level and thing not in self.kept:
            self.settle(self.kept + [thing])

    def settle(self, things):
        left = sorted(things)
        while len(left) > self.room:
            self.level = self.level + 1
            left = of_marks(left, self.level)
        self.kept = left

    def exact(self):
        return self.level == 0

    def bounds(self):
        many = len(self.kept)
        if self.exact():
            return (many, many)
        # All things of marks of level or more that came are kept; of the others each might have come.
        others = MOST - (MOST >> self.level)
        return (self.room + 1, min(self.arrivals, many + others))


def of_marks(things, level):
    return [thing for thing in things if mark(thing) >= level]


def poured_distinct(one, other):
    if one.room != other.room:
        raise Unlike("the rooms differ")
    poured = Distinct(one.room)
    poured.arrivals = one.arrivals + other.arrivals
    poured.level = max(one.level, other.level)
    poured.settle(of_marks(sorted(set(one.kept + other.kept)), poured.level))
    return poured
