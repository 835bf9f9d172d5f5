"""Window: the sum of the weights of the last so many arrivals, kept in boxes (first, last, sum)."""

from sketchbounds.errors import OutOfReach, Unlike


class Window:
    def __init__(self, room, reach):
        self.room = room
        self.reach = reach
        self.clock = 0
        self.boxes = []

    def add(self, weight):
        self.clock = self.clock + 1
        self.settle(self.boxes + [(self.clock, self.clock, weight)])

    def idle(self, many):
        self.clock = self.clock + many
        self.settle(self.boxes)

    def settle(self, boxes):
        edge = self.clock - self.reach
        within = [box for box in boxes if box[1] > edge]
        self.boxes = joined(within, self.room)

    def last(self, many):
        if many < 1 or many > self.reach:
            raise OutOfReach("the window does not reach that far")
        edge = self.clock - many
        low = sum([box[2] for box in self.boxes if box[0] > edge])
        across = sum([box[2] for box in self.boxes if box[0] <= edge and box[1] > edge])
        return (low, low + across)


def joined(boxes, room):
    done = []
    newer = 0
    at_hand = None
    for box in reversed(boxes):
        if at_hand is None:
            at_hand = box
        elif (at_hand[2] + box[2]) * room <= newer:
            at_hand = (box[0], at_hand[1], box[2] + at_hand[2])
        else:
            done.append(at_hand)
            newer = newer + at_hand[2]
            at_hand = box
    if at_hand is not None:
        done.append(at_hand)
    return list(reversed(done))


def followed(one, other):
    if one.room != other.room or one.reach != other.reach:
        raise Unlike("the rooms or the reaches differ")
    both = Window(one.room, one.reach)
    both.clock = one.clock + other.clock
    behind = [(box[0] + one.clock, box[1] + one.clock, box[2]) for box in other.boxes]
    both.settle(one.boxes + behind)
    return both


def most_boxes(room, total):
    if total == 0:
        return 0
    return 2 + 2 * growths_below(room, total)


def growths_below(room, total):
    # The greatest p with (room + 1) ** p below total * room ** p, found by its bits from the highest one on:
    # a step by one each would be slow for totals of many figures.
    squared = [(1, room + 1, room)]
    while squared[-1][1] < total * squared[-1][2]:
        step = squared[-1]
        squared.append((step[0] * 2, step[1] * step[1], step[2] * step[2]))
    growths = 0
    grown = 1
    bound = total
    for many, above, below in reversed(squared):
        if grown * above < bound * below:
            growths = growths + many
            grown = grown * above
            bound = bound * below
    return growths
