"""Notes: a keepsake written as a text of eight lines."""

# Of a number beyond some thousand figures str tells nothing, so a number is written piece by piece.
PIECE = 1000000000000000000000000000000
PIECE_FIGURES = 30


def written(keepsake):
    lines = [
        "keep " + row([keepsake.room, keepsake.reach, keepsake.span]),
        "came " + frequent_words(keepsake.came),
        "went " + frequent_words(keepsake.went),
        "up " + rungs_words(keepsake.up),
        "down " + rungs_words(keepsake.down),
        "window " + window_words(keepsake.window),
        "seen " + row([keepsake.seen.arrivals, keepsake.seen.level] + keepsake.seen.kept),
        "sums " + row(keepsake.balance.sums),
    ]
    return "\n".join(lines)


def frequent_words(part):
    numbers = [part.total, part.lost]
    for thing in sorted(part.counts):
        numbers.extend([thing, part.counts[thing]])
    return row(numbers)


def rungs_words(part):
    numbers = [part.total, part.over, part.under, part.turns]
    if part.total != 0:
        numbers.extend([part.least, part.most])
    words = [row(numbers)]
    for things in part.rungs:
        words.append("/")
        words.extend([figures(thing) for thing in things])
    return " ".join(words)


def window_words(part):
    numbers = [part.clock]
    for box in part.boxes:
        numbers.extend(box)
    return row(numbers)


def row(numbers):
    return " ".join([figures(number) for number in numbers])


def figures(number):
    pieces = []
    rest = abs(number)
    while rest >= PIECE:
        pieces.append(str(rest % PIECE).zfill(PIECE_FIGURES))
        rest = rest // PIECE
    pieces.append(str(rest))
    if number < 0:
        pieces.append("-")
    return "".join(reversed(pieces))
