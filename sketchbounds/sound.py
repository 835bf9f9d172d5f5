"""Sound: whether what was read could be kept, for each part by itself."""

from sketchbounds.marks import MOST, mark

LEAST_ROOM = 2
MOST_ROOM = 64
MOST_REACH = 1000000000
MOST_SPAN = 1000000000
MOST_LEVEL = 60


def sound_bounds(room, reach, span):
    if room % 2 != 0 or room < LEAST_ROOM or room > MOST_ROOM:
        return False
    return 1 <= reach <= MOST_REACH and 1 <= span <= MOST_SPAN


def sound_frequent(frequent, things):
    # The things come as they stood in the line: among the keys of counts none could come twice.
    counts = [frequent.counts[thing] for thing in things]
    if not rising_things(things) or len(things) > frequent.room:
        return False
    return min(counts, default=1) >= 1 and sum(counts) + (frequent.room + 1) * frequent.lost <= frequent.total


def rising_things(things):
    rising = all([one < other for one, other in zip(things, things[1:])])
    return rising and max(things, default=0) < MOST


def sound_rungs(rungs):
    if rungs.total == 0:
        return rungs.rungs == [] and rungs.over == 0 and rungs.under == 0 and rungs.turns == 0
    if rungs.rungs == [] or rungs.rungs[-1] == []:
        return False
    if rungs.least > rungs.most or rungs.most >= MOST or not stand_for_total(rungs):
        return False
    if not all([sound_list(things, rungs) for things in rungs.rungs]):
        return False
    return (rungs.over + rungs.under) * rungs.room <= rungs.total * (len(rungs.rungs) - 1)


def stand_for_total(rungs):
    weight = 0
    # From the last list on, so that a row of very many lists is soon seen to be too much.
    for things in reversed(rungs.rungs):
        weight = weight * 2 + len(things)
        if weight > rungs.total:
            return False
    return weight == rungs.total


def sound_list(things, rungs):
    if len(things) > rungs.room or things != sorted(things):
        return False
    return min(things, default=rungs.least) >= rungs.least and max(things, default=rungs.most) <= rungs.most


def sound_window(window):
    return sound_places(window) and sound_sums(window)


def sound_places(window):
    ahead = 0
    for first, last, weight in window.boxes:
        if first <= ahead or last < first or weight < 1:
            return False
        if last > window.clock or last <= window.clock - window.reach:
            return False
        ahead = last
    return True


def sound_sums(window):
    newer = 0
    neighbour = 0
    for first, last, weight in reversed(window.boxes):
        if first != last and weight * window.room > newer:
            return False
        if (weight + neighbour) * window.room <= newer - neighbour:
            return False
        newer = newer + weight
        neighbour = weight
    return True


def sound_distinct(distinct):
    if distinct.level > MOST_LEVEL or not rising_things(distinct.kept) or len(distinct.kept) > distinct.room:
        return False
    if not all([mark(thing) >= distinct.level for thing in distinct.kept]):
        return False
    fewest = len(distinct.kept) if distinct.level == 0 else distinct.room + 1
    return distinct.arrivals >= fewest
