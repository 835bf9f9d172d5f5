import bisect
import itertools
import unittest

from sketchbounds.errors import OutOfReach
from sketchbounds.rungs import Rungs, poured_rungs
from streams import check_refused, fields_of, rows_of, rungs_of

SHAPES = ((2, 30, 1), (2, 12, 10 ** 12), (4, 40, 7), (6, 3, 100), (64, 500, 3), (64, 60, 10 ** 12))


class PlainRow:
    """All things that came, sorted, each as often as its weight tells, without writing the row out."""

    def __init__(self, rows):
        self.things = sorted(rows)
        self.ends = list(itertools.accumulate(weight for thing, weight in self.things))

    def rank(self, thing):
        place = bisect.bisect_right(self.things, (thing, 10 ** 30))
        return self.ends[place - 1] if place else 0

    def stands_between(self, thing, first, last):
        lowest = self.rank(thing - 1) + 1
        highest = self.rank(thing)
        return lowest <= highest and lowest <= last and highest >= first


def streams():
    """Pairs of a Rungs and all its rows: one after the other, and poured in several ways."""
    for room, kinds, most_weight in SHAPES:
        rows = rows_of(room + kinds, 600, kinds, most_weight)
        yield rungs_of(room, rows[:room]), rows[:room]
        yield rungs_of(room, rows), rows
        parts = [rungs_of(room, rows[start:start + 100]) for start in range(0, 600, 100)]
        row = parts[0]
        for part in parts[1:]:
            row = poured_rungs(row, part)
        yield row, rows
        halves = [poured_rungs(parts[place], parts[place + 1]) for place in (0, 2, 4)]
        tree = poured_rungs(poured_rungs(halves[0], halves[1]), halves[2])
        more = rows_of(room + 7, 50, kinds, most_weight)
        for thing, weight in more:
            tree.add(thing, weight)
        yield tree, rows + more
        doubled = rungs_of(room, rows)
        for step in range(3):
            doubled = poured_rungs(doubled, doubled)
        yield doubled, rows * 8


class HandTest(unittest.TestCase):
    def setUp(self):
        self.rungs = rungs_of(2, [(5, 1), (3, 1), (9, 1), (9, 1), (1, 1), (4, 3)])
        self.assertEqual(self.rungs.rungs, [[4, 9], [9], [3]])
        self.assertEqual((self.rungs.total, self.rungs.over, self.rungs.under), (8, 3, 1))

    def test_near(self):
        told = [self.rungs.near(thing) for thing in (0, 2, 3, 4, 8, 9, 10, 2 ** 60 - 1)]
        self.assertEqual(told, [0, 0, 4, 5, 5, 8, 8, 8])

    def test_rank(self):
        told = [self.rungs.rank(thing) for thing in (0, 2, 3, 4, 8, 9, 2 ** 60 - 1)]
        self.assertEqual(told, [(0, 1), (0, 1), (1, 5), (2, 6), (2, 6), (5, 8), (5, 8)])
        self.assertIs(type(told[0]), tuple)

    def test_by_rank(self):
        told = [self.rungs.by_rank(k) for k in range(1, 9)]
        self.assertEqual(told, [
            (3, 1, 2), (3, 1, 3), (3, 1, 4), (3, 1, 5), (4, 2, 6), (9, 3, 7), (9, 4, 8), (9, 5, 8),
        ])
        self.assertIs(type(told[0]), tuple)

    def test_all_is_true_while_no_list_was_settled(self):
        rungs = rungs_of(4, [(5, 1), (0, 1), (5, 2)])
        self.assertEqual([rungs.near(thing) for thing in (0, 4, 5, 6)], [1, 1, 4, 4])
        self.assertEqual([rungs.rank(thing) for thing in (0, 4, 5, 6)], [(1, 1), (1, 1), (4, 4), (4, 4)])
        self.assertEqual([rungs.by_rank(k) for k in range(1, 5)], [(0, 1, 1), (5, 2, 2), (5, 3, 3), (5, 4, 4)])

    def test_alike_things_in_several_lists(self):
        rungs = rungs_of(4, [(7, 3), (2, 4)])
        self.assertEqual([rungs.by_rank(k)[0] for k in range(1, 8)], [2, 2, 2, 2, 7, 7, 7])
        self.assertEqual(rungs.near(7), 7)

    def test_without_rows(self):
        rungs = Rungs(2)
        for thing in (0, 1, 2 ** 60 - 1):
            self.assertEqual((rungs.near(thing), rungs.rank(thing)), (0, (0, 0)))
        for k in (-1, 0, 1, 2):
            check_refused(self, OutOfReach, rungs.by_rank, k)

    def test_asking_changes_nothing(self):
        before = fields_of(self.rungs)
        self.rungs.near(4)
        self.rungs.rank(4)
        self.rungs.by_rank(4)
        self.assertEqual(fields_of(self.rungs), before)


class OutOfReachTest(unittest.TestCase):
    def test_places_that_are_not_there(self):
        for rungs in (rungs_of(2, [(4, 1)]), rungs_of(2, rows_of(1, 60, 9, 9)), rungs_of(64, [(7, 10 ** 12)])):
            for k in (0, -1, -10 ** 12, rungs.total + 1, rungs.total + 10 ** 12):
                before = fields_of(rungs)
                check_refused(self, OutOfReach, rungs.by_rank, k)
                self.assertEqual(fields_of(rungs), before)

    def test_the_places_at_both_ends_are_told(self):
        rungs = rungs_of(2, [(4, 1)])
        self.assertEqual(rungs.by_rank(1), (4, 1, 1))
        rungs = rungs_of(64, [(7, 10 ** 12), (3, 1)])
        self.assertEqual(rungs.by_rank(1), (3, 1, 1))
        self.assertEqual(rungs.by_rank(10 ** 12 + 1), (7, 10 ** 12 + 1, 10 ** 12 + 1))


class StreamsTest(unittest.TestCase):
    def test_rank_against_a_plain_row(self):
        for rungs, rows in streams():
            row = PlainRow(rows)
            things = sorted({thing for thing, weight in rows})
            for thing in things[::7] + [0, things[0] - 1, things[-1], things[-1] + 1, 2 ** 60 - 1]:
                near = sum(2 ** h for h, kept in enumerate(rungs.rungs) for each in kept if each <= thing)
                self.assertEqual(rungs.near(thing), near)
                low, high = rungs.rank(thing)
                self.assertEqual(low, max(0, near - rungs.over))
                self.assertEqual(high, min(rungs.total, near + rungs.under))
                self.assertTrue(low <= row.rank(thing) <= high)

    def test_by_rank_against_a_plain_row(self):
        for rungs, rows in streams():
            row = PlainRow(rows)
            kept = sorted({thing for things in rungs.rungs for thing in things})
            total = rungs.total
            asked = {1, 2, 3, total // 3, total // 2, total - total // 10, total - 1, total}
            for k in [k for k in asked if 1 <= k <= total]:
                thing, first, last = rungs.by_rank(k)
                self.assertEqual(thing, [each for each in kept if rungs.near(each) >= k][0])
                self.assertEqual((first, last), (max(1, k - rungs.over), min(total, k + rungs.under)))
                self.assertTrue(row.stands_between(thing, first, last))

    def test_what_always_holds(self):
        for rungs, rows in streams():
            lists = rungs.rungs
            self.assertEqual(rungs.total, sum(weight for thing, weight in rows))
            self.assertEqual(rungs.total, sum(2 ** h * len(things) for h, things in enumerate(lists)))
            self.assertLessEqual(max(len(things) for things in lists), rungs.room)
            self.assertTrue(all(things == sorted(things) for things in lists))
            self.assertNotEqual(lists[-1], [])
            self.assertLessEqual(len(lists), rungs.total.bit_length())
            self.assertLessEqual((rungs.over + rungs.under) * rungs.room, rungs.total * (len(lists) - 1))

    def test_a_small_stream_place_by_place(self):
        rungs, rows = Rungs(2), []
        for thing, weight in rows_of(5, 60, 7, 3):
            rungs.add(thing, weight)
            rows.append((thing, weight))
            row = sorted(thing for thing, weight in rows for step in range(weight))
            for k in range(1, len(row) + 1):
                told, first, last = rungs.by_rank(k)
                self.assertIn(told, row[first - 1:last])
            for asked in set(row):
                low, high = rungs.rank(asked)
                self.assertTrue(low <= len([each for each in row if each <= asked]) <= high)


if __name__ == "__main__":
    unittest.main()
