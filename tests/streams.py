"""What several test files share: rows made by plain steps, and states to hold answers against."""

import copy
from math import isqrt

from sketchbounds.balance import Balance
from sketchbounds.distinct import Distinct
from sketchbounds.errors import BadText, KeepError, OutOfReach, TooFine, TooManyOff, Unlike
from sketchbounds.frequent import Frequent
from sketchbounds.keepsake import Keepsake
from sketchbounds.rungs import Rungs
from sketchbounds.window import Window

REFUSALS = (Unlike, TooFine, OutOfReach, TooManyOff, BadText)


def numbers_of(seed, many):
    numbers = []
    state = seed
    for step in range(many):
        state = (state * 6364136223846793005 + 1442695040888963407) % 2 ** 64
        numbers.append(state)
    return numbers


def rows_of(seed, many, kinds, most_weight):
    rows = []
    for state in numbers_of(seed, many):
        # The square makes low things come more often than high ones.
        draw = (state >> 33) % (kinds * kinds)
        thing = isqrt(draw) * 1000003 % 2 ** 60
        weight = (state >> 13) % most_weight + 1
        rows.append((thing, weight))
    return rows


def frequent_of(room, rows):
    made = Frequent(room)
    for thing, weight in rows:
        made.add(thing, weight)
    return made


def rungs_of(room, rows):
    made = Rungs(room)
    for thing, weight in rows:
        made.add(thing, weight)
    return made


def window_of(room, reach, weights):
    """A weight below 0 stands for so many arrivals without weight."""
    made = Window(room, reach)
    for weight in weights:
        if weight < 0:
            made.idle(-weight)
        else:
            made.add(weight)
    return made


def distinct_of(room, things):
    made = Distinct(room)
    for thing in things:
        made.add(thing)
    return made


def balance_of(span, rows):
    """A weight below 0 stands for so much taken."""
    made = Balance(span)
    for thing, weight in rows:
        if weight < 0:
            made.take(thing, -weight)
        else:
            made.put(thing, weight)
    return made


def put_and_taken(seed, many, kinds, most_weight):
    """Rows ("put", thing, weight), ("take", thing, weight) and ("idle", many)."""
    rows = []
    for (thing, weight), state in zip(rows_of(seed, many, kinds, most_weight), numbers_of(seed + 1, many)):
        word = ("put", "put", "put", "take", "take", "idle")[(state >> 40) % 6]
        rows.append((word, weight) if word == "idle" else (word, thing, weight))
    return rows


def go_through(keepsake, rows):
    for word, *numbers in rows:
        getattr(keepsake, word)(*numbers)


def keepsake_of(room, reach, span, rows):
    made = Keepsake(room, reach, span)
    go_through(made, rows)
    return made


def true_answer(rows, word, *numbers):
    """What a list of all rows tells, or the refusal's name; of word off the number is the span."""
    puts = sorted(row[1:] for row in rows if row[0] == "put")
    if word == "net":
        return sum(more for thing, more in signed_rows(rows) if thing == numbers[0])
    if word == "ranked":
        return sum(more for thing, more in signed_rows(rows) if thing <= numbers[0])
    if word == "all_put":
        return sum(weight for thing, weight in puts)
    if word == "often":
        share = sum(weight for thing, weight in puts) * numbers[0]
        return sorted(thing for thing, weight in true_weights(puts).items() if weight * numbers[1] > share)
    if word == "by_rank":
        return true_by_rank(puts, numbers[0])
    if word == "last":
        return true_last(rows, numbers[0])
    if word == "distinct":
        return len({thing for thing, weight in puts})
    return true_off(rows, numbers[0])


def signed_rows(rows):
    return [(row[1], row[2] if row[0] == "put" else -row[2]) for row in rows if row[0] != "idle"]


def true_by_rank(puts, k):
    before = 0
    for thing, weight in puts:
        if before < k <= before + weight:
            return thing
        before += weight
    return "OutOfReach"


def true_last(rows, many):
    left, told = many, 0
    for row in reversed(rows):
        if left <= 0:
            break
        told += row[2] if row[0] == "put" else 0
        left -= row[1] if row[0] == "idle" else 1
    return told


def true_off(rows, span):
    nets = true_weights(row for row in signed_rows(rows) if row[0] < span)
    pairs = sorted((thing, more - 1) for thing, more in nets.items() if more != 1)
    # Three missing ones are too many already.
    missing = [thing for thing in range(min(span, len(nets) + 3)) if thing not in nets]
    pairs = sorted(pairs + [(thing, -1) for thing in missing])
    return pairs if len(pairs) <= 2 else "TooManyOff"


def true_weights(rows):
    weights = {}
    for thing, weight in rows:
        weights[thing] = weights.get(thing, 0) + weight
    return weights


def state_of(frequent):
    return (frequent.room, frequent.total, frequent.lost, dict(frequent.counts))


def fields_of(value):
    """All that an object holds, as values of their own, so that later changes are seen."""
    if hasattr(value, "__dict__"):
        return {name: fields_of(held) for name, held in vars(value).items()}
    return copy.deepcopy(value)


def check_refused(test, refusal, call, *handed):
    before = [fields_of(value) for value in handed]
    with test.assertRaises(refusal) as caught:
        call(*handed)
    test.assertIsInstance(caught.exception, KeepError)
    test.assertIsInstance(caught.exception, ValueError)
    test.assertEqual([other for other in REFUSALS if isinstance(caught.exception, other)], [refusal])
    test.assertEqual([fields_of(value) for value in handed], before)
    return caught.exception


def check_pouring(test, pour, make_one, make_other, go_on):
    """Pouring changes neither, and each of the three goes on by itself; make_* tell the same object anew each time."""
    for first, second in ((make_one, make_other), (make_other, make_one)):
        check_by_themselves(test, pour, first(), second(), go_on)
    alone = make_one()
    check_by_themselves(test, pour, alone, alone, go_on)


def check_by_themselves(test, pour, one, other, go_on):
    before = (fields_of(one), fields_of(other))
    poured = pour(one, other)
    test.assertEqual((fields_of(one), fields_of(other)), before)
    test.assertIs(type(poured), type(one))
    parts = [one, other, poured]
    for grown in parts:
        states = [fields_of(part) for part in parts]
        go_on(grown)
        for part, state in zip(parts, states):
            if part is grown:
                test.assertNotEqual(fields_of(part), state)
            else:
                test.assertEqual(fields_of(part), state)
