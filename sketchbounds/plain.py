"""Plain: the true answers, told from all rows."""

from sketchbounds.errors import OutOfReach, TooManyOff

MOST_OFF = 2


class Plain:
    def __init__(self):
        self.clock = 0
        # The place and the weight of each put.
        self.weights = []
        self.puts = {}
        self.nets = {}

    def put(self, thing, weight):
        self.clock = self.clock + 1
        self.weights.append((self.clock, weight))
        self.puts[thing] = self.puts.get(thing, 0) + weight
        self.nets[thing] = self.net(thing) + weight

    def take(self, thing, weight):
        self.clock = self.clock + 1
        self.nets[thing] = self.net(thing) - weight

    def idle(self, many):
        self.clock = self.clock + many

    def net(self, thing):
        return self.nets.get(thing, 0)

    def ranked(self, thing):
        return sum([more for named, more in self.nets.items() if named <= thing])

    def all_put(self):
        return sum(self.puts.values())

    def often(self, part, whole):
        share = self.all_put() * part
        return [thing for thing in sorted(self.puts) if self.puts[thing] * whole > share]

    def by_rank(self, k):
        place = 0
        for thing in sorted(self.puts):
            place = place + self.puts[thing]
            if 1 <= k <= place:
                return thing
        raise OutOfReach("there is no such place among the things put")

    def last(self, many):
        edge = self.clock - many
        return sum([weight for place, weight in self.weights if place > edge])

    def distinct(self):
        return len(self.puts)

    def off(self, span):
        # Each thing that no row names is off, so no span is walked that is much longer than the rows.
        if span - len(self.nets) > MOST_OFF:
            raise TooManyOff("more than two things are off")
        pairs = [(thing, self.net(thing) - 1) for thing in range(span) if self.net(thing) != 1]
        if len(pairs) > MOST_OFF:
            raise TooManyOff("more than two things are off")
        return pairs
