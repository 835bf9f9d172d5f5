"""What several test files share: rows made by plain steps, and a state to hold answers against."""

from math import isqrt

from sketchbounds.frequent import Frequent


def rows_of(seed, many, kinds, most_weight):
    rows = []
    state = seed
    for step in range(many):
        state = (state * 6364136223846793005 + 1442695040888963407) % 2 ** 64
        # The square makes low things come more often than high ones.
        draw = (state >> 33) % (kinds * kinds)
        thing = isqrt(draw) * 1000003 % 2 ** 60
        weight = (state >> 13) % most_weight + 1
        rows.append((thing, weight))
    return rows


def frequent_of(room, rows):
    made = Frequent(room)
    for thing, weight in rows:
        made.add(thing, weight)
    return made


def true_weights(rows):
    weights = {}
    for thing, weight in rows:
        weights[thing] = weights.get(thing, 0) + weight
    return weights


def state_of(frequent):
    return (frequent.room, frequent.total, frequent.lost, dict(frequent.counts))
