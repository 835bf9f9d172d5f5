"""Keepsake: what is kept of a stream of rows that are put in and taken out."""

from sketchbounds.balance import Balance, poured_balance
from sketchbounds.distinct import Distinct, poured_distinct
from sketchbounds.errors import Unlike
from sketchbounds.frequent import Frequent, poured_frequent
from sketchbounds.rungs import Rungs, poured_rungs
from sketchbounds.window import Window, followed


class Keepsake:
    def __init__(self, room, reach, span):
        self.room = room
        self.reach = reach
        self.span = span
        self.came = Frequent(room)
        self.went = Frequent(room)
        self.up = Rungs(room)
        self.down = Rungs(room)
        self.window = Window(room, reach)
        self.seen = Distinct(room)
        self.balance = Balance(span)

    def put(self, thing, weight):
        self.came.add(thing, weight)
        self.up.add(thing, weight)
        self.window.add(weight)
        self.seen.add(thing)
        if thing < self.span:
            self.balance.put(thing, weight)

    def take(self, thing, weight):
        self.went.add(thing, weight)
        self.down.add(thing, weight)
        self.window.idle(1)
        if thing < self.span:
            self.balance.take(thing, weight)

    def idle(self, many):
        self.window.idle(many)

    def net(self, thing):
        low = self.came.low(thing) - self.went.high(thing)
        return (low, self.came.high(thing) - self.went.low(thing))

    def ranked(self, thing):
        risen = self.up.rank(thing)
        fallen = self.down.rank(thing)
        return (risen[0] - fallen[1], risen[1] - fallen[0])

    def often(self, part, whole):
        return self.came.often(part, whole)

    def by_rank(self, k):
        return self.up.by_rank(k)

    def last(self, many):
        return self.window.last(many)

    def distinct(self):
        return self.seen.bounds()

    def off(self):
        return self.balance.off()


def empty_like(keepsake):
    return Keepsake(keepsake.room, keepsake.reach, keepsake.span)


def poured(one, other):
    if one.room != other.room or one.reach != other.reach or one.span != other.span:
        raise Unlike("the rooms, the reaches or the spans differ")
    both = empty_like(one)
    both.came = poured_frequent(one.came, other.came)
    both.went = poured_frequent(one.went, other.went)
    both.up = poured_rungs(one.up, other.up)
    both.down = poured_rungs(one.down, other.down)
    both.window = followed(one.window, other.window)
    both.seen = poured_distinct(one.seen, other.seen)
    both.balance = poured_balance(one.balance, other.balance)
    return both
