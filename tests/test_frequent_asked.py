import unittest

from sketchbounds.errors import BadText, KeepError, OutOfReach, TooFine, TooManyOff, Unlike
from sketchbounds.frequent import Frequent, poured_frequent
from streams import frequent_of, rows_of, state_of, true_weights


class BoundsTest(unittest.TestCase):
    def test_low_and_high(self):
        frequent = frequent_of(2, [(1, 5), (2, 2), (3, 1), (3, 2)])
        self.assertEqual(state_of(frequent), (2, 10, 2, {1: 3, 3: 1}))
        told = [(thing, frequent.low(thing), frequent.high(thing)) for thing in (1, 2, 3, 4)]
        self.assertEqual(told, [(1, 3, 5), (2, 0, 2), (3, 1, 3), (4, 0, 2)])

    def test_without_rows(self):
        frequent = Frequent(2)
        for thing in (0, 1, 2 ** 60 - 1):
            self.assertEqual((frequent.low(thing), frequent.high(thing)), (0, 0))

    def test_both_are_the_true_weight_where_nothing_is_lost(self):
        frequent = frequent_of(64, [(thing % 64, thing + 1) for thing in range(200)])
        weights = true_weights([(thing % 64, thing + 1) for thing in range(200)])
        for thing in range(70):
            told = (frequent.low(thing), frequent.high(thing))
            self.assertEqual(told, (weights.get(thing, 0), weights.get(thing, 0)))

    def test_against_a_plain_count(self):
        for room, kinds, most_weight in ((2, 5, 3), (2, 40, 10 ** 12), (6, 12, 7), (64, 150, 4)):
            rows = rows_of(room + kinds, 500, kinds, most_weight)
            frequent = Frequent(room)
            for place, (thing, weight) in enumerate(rows):
                frequent.add(thing, weight)
                kept = sum(frequent.counts.values())
                self.assertEqual(kept + (room + 1) * frequent.lost, frequent.total)
                if place % 50 == 49:
                    weights = true_weights(rows[:place + 1])
                    self.assertEqual(frequent.total, sum(weights.values()))
                    for asked in list(weights) + [77, 2 ** 60 - 1]:
                        low, high = frequent.low(asked), frequent.high(asked)
                        self.assertEqual(high - low, frequent.lost)
                        self.assertTrue(low <= weights.get(asked, 0) <= high)

    def test_asking_changes_nothing(self):
        frequent = frequent_of(2, [(1, 5), (2, 2), (3, 1)])
        before = state_of(frequent)
        for thing in (1, 2, 99):
            frequent.low(thing)
            frequent.high(thing)
        frequent.often(1, 3)
        self.assertEqual(state_of(frequent), before)


class OftenTest(unittest.TestCase):
    def test_triples_by_rising_things(self):
        frequent = frequent_of(4, [(9, 4), (2, 5), (5, 6), (0, 5)])
        self.assertEqual(frequent.often(1, 5), [(0, 5, 5), (2, 5, 5), (5, 6, 6)])
        self.assertEqual(frequent.often(1, 4), [(5, 6, 6)])
        self.assertIs(type(frequent.often(1, 5)), list)
        self.assertTrue(all(type(triple) is tuple for triple in frequent.often(1, 5)))

    def test_high_is_what_is_held_against_the_share(self):
        frequent = frequent_of(2, [(1, 5), (2, 2), (3, 1), (3, 2)])
        self.assertEqual(frequent.often(1, 3), [(1, 3, 5)])
        self.assertEqual(frequent.often(499999, 10 ** 6), [(1, 3, 5)])
        self.assertEqual(frequent.often(1, 2), [])

    def test_a_share_that_is_just_met_is_not_told(self):
        frequent = frequent_of(4, [(1, 3), (2, 7)])
        self.assertEqual(frequent.often(3, 10), [(2, 7, 7)])
        self.assertEqual(frequent.often(7, 10), [])
        self.assertEqual(frequent.often(299999, 10 ** 6), [(1, 3, 3), (2, 7, 7)])
        self.assertEqual(frequent.often(699999, 10 ** 6), [(2, 7, 7)])

    def test_the_whole_share(self):
        frequent = frequent_of(4, [(1, 3), (1, 7)])
        self.assertEqual(frequent.often(1, 1), [])
        self.assertEqual(frequent.often(10 ** 6, 10 ** 6), [])
        self.assertEqual(frequent.often(10 ** 6 - 1, 10 ** 6), [(1, 10, 10)])

    def test_a_thing_without_a_count_is_not_told(self):
        frequent = frequent_of(2, [(1, 1), (2, 1), (3, 1), (4, 1)])
        self.assertEqual(state_of(frequent), (2, 4, 1, {4: 1}))
        self.assertEqual(frequent.often(1, 3), [(4, 1, 2)])

    def test_no_thing_above_the_share_is_missing(self):
        for room, kinds in ((2, 6), (4, 9), (64, 120)):
            rows = rows_of(kinds, 600, kinds, 9)
            weights = true_weights(rows)
            whole_way = frequent_of(room, rows)
            poured = poured_frequent(frequent_of(room, rows[:200]), frequent_of(room, rows[200:]))
            for frequent in (whole_way, poured):
                for part, whole in ((1, room + 1), (1, room), (1, 2), (2, room + 3), (1, 1)):
                    told = frequent.often(part, whole)
                    things = [thing for thing, low, high in told]
                    self.assertEqual(things, sorted(set(things)))
                    for thing, low, high in told:
                        self.assertEqual((low, high), (frequent.low(thing), frequent.high(thing)))
                        self.assertGreater(high * whole, frequent.total * part)
                        self.assertGreaterEqual(low, 1)
                    for thing, weight in weights.items():
                        if weight * whole > frequent.total * part:
                            self.assertIn(thing, things)
                    for thing in frequent.counts:
                        if frequent.high(thing) * whole > frequent.total * part:
                            self.assertIn(thing, things)

    def test_without_rows(self):
        for room, part, whole in ((2, 1, 3), (2, 1, 1), (64, 1, 65), (64, 10 ** 6, 10 ** 6)):
            self.assertEqual(Frequent(room).often(part, whole), [])

    def test_the_told_list_is_the_askers_own(self):
        frequent = frequent_of(4, [(1, 3), (2, 7)])
        told = frequent.often(1, 5)
        again = frequent.often(1, 5)
        told.append((5, 5, 5))
        told[0] = None
        self.assertEqual(again, [(1, 3, 3), (2, 7, 7)])
        self.assertEqual(frequent.often(1, 5), [(1, 3, 3), (2, 7, 7)])
        self.assertEqual(state_of(frequent), (4, 10, 0, {1: 3, 2: 7}))
        bare = Frequent(4)
        bare.often(1, 5).append(1)
        self.assertEqual(bare.often(1, 5), [])

    def test_a_told_list_does_not_change_later(self):
        frequent = frequent_of(2, [(1, 3), (2, 7)])
        told = frequent.often(1, 3)
        for thing in (1, 8, 9, 10):
            frequent.add(thing, 100)
        self.assertEqual(told, [(2, 7, 7)])


class TooFineTest(unittest.TestCase):
    def test_a_share_finer_than_the_room_is_refused(self):
        rows = [(1, 3), (2, 7), (3, 1)]
        for room, part, whole in ((2, 1, 4), (2, 33, 100), (2, 1, 10 ** 6), (64, 1, 66), (64, 15384, 10 ** 6)):
            for frequent in (Frequent(room), frequent_of(room, rows)):
                before = state_of(frequent)
                with self.assertRaises(TooFine) as caught:
                    frequent.often(part, whole)
                self.assertIsInstance(caught.exception, KeepError)
                self.assertIsInstance(caught.exception, ValueError)
                for refusal in (Unlike, OutOfReach, TooManyOff, BadText):
                    self.assertNotIsInstance(caught.exception, refusal)
                self.assertEqual(state_of(frequent), before)

    def test_a_share_just_as_fine_as_the_room_is_not_refused(self):
        self.assertEqual(frequent_of(2, [(1, 3), (2, 6)]).often(1, 3), [(2, 6, 6)])
        self.assertEqual(frequent_of(2, [(1, 4), (2, 5)]).often(333334, 10 ** 6), [(1, 4, 4), (2, 5, 5)])
        self.assertEqual(frequent_of(64, [(1, 1), (2, 64)]).often(1, 65), [(2, 64, 64)])
        self.assertEqual(frequent_of(64, [(1, 1), (2, 64)]).often(15384, 65 * 15384), [(2, 64, 64)])


if __name__ == "__main__":
    unittest.main()
