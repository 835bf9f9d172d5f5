"""Rungs: ranks of things, kept on lists where each thing stands for a power of two."""

from sketchbounds.errors import OutOfReach, Unlike


class Rungs:
    def __init__(self, room):
        self.room = room
        self.total = 0
        self.over = 0
        self.under = 0
        self.turns = 0
        self.least = None
        self.most = None
        self.rungs = []

    def add(self, thing, weight):
        self.total = self.total + weight
        self.least = lesser(self.least, thing)
        self.most = greater(self.most, thing)
        self.settle(with_thing(self.rungs, thing, weight))

    def settle(self, lists):
        # A list is never changed but put anew, so rungs that somebody read earlier stay as they were told.
        settled = list(lists)
        place = 0
        stands_for = 1
        while place < len(settled):
            things = settled[place]
            if len(things) > self.room:
                if place + 1 == len(settled):
                    settled.append([])
                settled[place] = left_behind(things)
                settled[place + 1] = sorted(settled[place + 1] + risen(things, self.turns))
                self.turn(stands_for)
            place = place + 1
            stands_for = stands_for * 2
        self.rungs = settled

    def turn(self, stands_for):
        if self.turns % 2 == 0:
            self.over = self.over + stands_for
        else:
            self.under = self.under + stands_for
        self.turns = self.turns + 1

    def near(self, thing):
        told = 0
        stands_for = 1
        for things in self.rungs:
            told = told + stands_for * len([kept for kept in things if kept <= thing])
            stands_for = stands_for * 2
        return told

    def rank(self, thing):
        near = self.near(thing)
        return (max(near - self.over, 0), min(near + self.under, self.total))

    def by_rank(self, k):
        if k < 1 or k > self.total:
            raise OutOfReach("there is no such place among the things that came")
        return (thing_at(self.rungs, k), max(k - self.over, 1), min(k + self.under, self.total))


def lesser(one, other):
    known = [thing for thing in (one, other) if thing is not None]
    return min(known, default=None)


def greater(one, other):
    known = [thing for thing in (one, other) if thing is not None]
    return max(known, default=None)


def with_thing(lists, thing, weight):
    grown = list(lists)
    place = 0
    bits = weight
    while bits > 0:
        if place == len(grown):
            grown.append([])
        if bits % 2 == 1:
            grown[place] = sorted(grown[place] + [thing])
        place = place + 1
        bits = bits // 2
    return grown


def left_behind(things):
    return things[len(things) - len(things) % 2:]


def risen(things, turns):
    return things[turns % 2:len(things) - len(things) % 2:2]


def thing_at(lists, k):
    kept = []
    stands_for = 1
    for things in lists:
        for thing in things:
            kept.append((thing, stands_for))
        stands_for = stands_for * 2
    near = 0
    for thing, weight in sorted(kept):
        near = near + weight
        if near >= k:
            return thing
    return None


def list_at(lists, place):
    return lists[place] if place < len(lists) else []


def poured_rungs(one, other):
    if one.room != other.room:
        raise Unlike("the rooms differ")
    poured = Rungs(one.room)
    poured.total = one.total + other.total
    poured.over = one.over + other.over
    poured.under = one.under + other.under
    poured.turns = one.turns + other.turns
    poured.least = lesser(one.least, other.least)
    poured.most = greater(one.most, other.most)
    together = []
    for place in range(max(len(one.rungs), len(other.rungs))):
        together.append(sorted(list_at(one.rungs, place) + list_at(other.rungs, place)))
    poured.settle(together)
    return poured
