"""Balance: which things below span were not put just once more than taken, told from four sums."""

from sketchbounds.errors import TooManyOff, Unlike


class Balance:
    def __init__(self, span):
        self.span = span
        self.sums = [0, 0, 0, 0]

    def put(self, thing, weight):
        self.sums = with_row(self.sums, thing, weight)

    def take(self, thing, weight):
        self.sums = with_row(self.sums, thing, -weight)

    def off(self):
        rest = [held - due for held, due in zip(self.sums, due_sums(self.span))]
        pairs = pairs_for(rest)
        if pairs is None or not fits(pairs, rest, self.span):
            raise TooManyOff("more than two things are off")
        return pairs


def with_row(sums, thing, weight):
    grown = []
    share = weight
    for held in sums:
        grown.append(held + share)
        share = share * thing
    return grown


def pairs_for(rest):
    # Where a division leaves a rest, or a root isn't whole, these pairs are not right; fits sees to that.
    if rest == [0, 0, 0, 0]:
        return []
    # Of two pairs (x, a), (y, b) this is -a * b * (x - y) ** 2, so not 0; of one pair it is 0.
    bend = rest[1] * rest[1] - rest[0] * rest[2]
    if bend == 0:
        return one_pair(rest)
    return two_pairs(rest, bend)


def one_pair(rest):
    if rest[0] == 0:
        return None
    return [(rest[1] // rest[0], rest[0])]


def two_pairs(rest, bend):
    # With both for x + y and times for x * y, each sum but the first two comes of the two ahead of it:
    # rest[2] = both * rest[1] - times * rest[0] and rest[3] = both * rest[2] - times * rest[1].
    both = (rest[1] * rest[2] - rest[0] * rest[3]) // bend
    times = (rest[2] * rest[2] - rest[1] * rest[3]) // bend
    square = both * both - 4 * times
    if square < 1:
        return None
    apart = root(square)
    low = (both - apart) // 2
    more = (rest[1] - low * rest[0]) // apart
    return [(low, rest[0] - more), (low + apart, more)]


def fits(pairs, rest, span):
    sums = [0, 0, 0, 0]
    for thing, more in pairs:
        if thing < 0 or thing >= span:
            return False
        sums = with_row(sums, thing, more)
    # Two pairs of which one were of 0 would have a bend of 0, so their sums are never these.
    return sums == rest


def due_sums(span):
    once = span * (span - 1) // 2
    squares = span * (span - 1) * (2 * span - 1) // 6
    return [span, once, squares, once * once]


def root(number):
    if number == 0:
        return 0
    # Begun above the root, each guess is lesser than the one ahead of it till the root is reached.
    guess = 1
    for doubling in range((number.bit_length() + 1) // 2):
        guess = guess * 2
    better = (guess + number // guess) // 2
    while better < guess:
        guess = better
        better = (guess + number // guess) // 2
    return guess


def poured_balance(one, other):
    if one.span != other.span:
        raise Unlike("the spans differ")
    poured = Balance(one.span)
    poured.sums = [first + second for first, second in zip(one.sums, other.sums)]
    return poured
