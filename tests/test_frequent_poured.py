import unittest

from sketchbounds.errors import BadText, KeepError, OutOfReach, TooFine, TooManyOff, Unlike
from sketchbounds.frequent import Frequent, poured_frequent
from streams import frequent_of, rows_of, state_of, true_weights


class PouredTest(unittest.TestCase):
    def test_two_that_fit_together(self):
        one = frequent_of(4, [(1, 2), (2, 3)])
        other = frequent_of(4, [(2, 4), (9, 1)])
        for poured in (poured_frequent(one, other), poured_frequent(other, one)):
            self.assertIsInstance(poured, Frequent)
            self.assertEqual(state_of(poured), (4, 10, 0, {1: 2, 2: 7, 9: 1}))

    def test_two_that_must_be_made_to_fit(self):
        one = frequent_of(2, [(1, 5), (2, 3), (3, 1)])
        self.assertEqual(state_of(one), (2, 9, 1, {1: 4, 2: 2}))
        other = frequent_of(2, [(4, 7), (2, 1), (6, 1), (2, 3)])
        self.assertEqual(state_of(other), (2, 12, 1, {4: 6, 2: 3}))
        for poured in (poured_frequent(one, other), poured_frequent(other, one)):
            self.assertEqual(state_of(poured), (2, 21, 6, {4: 2, 2: 1}))

    def test_twice_room_things_fall_by_the_count_behind_room(self):
        one = frequent_of(2, [(1, 10), (2, 4)])
        other = frequent_of(2, [(3, 6), (4, 1)])
        self.assertEqual(state_of(poured_frequent(one, other)), (2, 21, 4, {1: 6, 3: 2}))

    def test_alike_counts_at_the_cut(self):
        one = frequent_of(2, [(1, 3), (2, 3)])
        other = frequent_of(2, [(3, 3), (4, 8)])
        self.assertEqual(state_of(poured_frequent(one, other)), (2, 17, 3, {4: 5}))

    def test_room_64(self):
        one = frequent_of(64, [(thing, 10) for thing in range(64)])
        other = frequent_of(64, [(thing, 4) for thing in range(32, 96)])
        counts = {thing: 10 for thing in range(32, 64)}
        counts.update({thing: 6 for thing in range(32)})
        self.assertEqual(state_of(poured_frequent(one, other)), (64, 896, 4, counts))

    def test_one_with_itself(self):
        one = frequent_of(2, [(1, 5), (2, 3), (3, 1)])
        self.assertEqual(state_of(poured_frequent(one, one)), (2, 18, 2, {1: 8, 2: 4}))
        self.assertEqual(state_of(one), (2, 9, 1, {1: 4, 2: 2}))

    def test_with_one_without_rows(self):
        one = frequent_of(2, [(1, 5), (2, 3), (3, 1)])
        for poured in (poured_frequent(one, Frequent(2)), poured_frequent(Frequent(2), one)):
            self.assertEqual(state_of(poured), state_of(one))
            self.assertIsNot(poured, one)
        bare = Frequent(2)
        self.assertEqual(state_of(poured_frequent(bare, bare)), (2, 0, 0, {}))

    def test_all_three_go_on_by_themselves(self):
        pairs = ((Frequent(2), [(7, 1)]), (frequent_of(2, [(1, 5), (2, 3), (3, 1)]), [(2, 2), (4, 9)]))
        for one, rows in pairs:
            other = frequent_of(2, rows)
            for first, second in ((one, other), (other, one), (one, one)):
                poured = poured_frequent(first, second)
                parts = [first, second, poured]
                for grown in parts:
                    before = [state_of(part) for part in parts]
                    for thing in (1, 50, 51, 52):
                        grown.add(thing, 6)
                    for part, state in zip(parts, before):
                        if part is not grown:
                            self.assertEqual(state_of(part), state)

    def test_pouring_changes_neither(self):
        for seed in range(5):
            one = frequent_of(4, rows_of(seed, 60, 12, 5))
            other = frequent_of(4, rows_of(seed + 50, 60, 12, 5))
            before = (state_of(one), state_of(other))
            poured_frequent(one, other)
            self.assertEqual((state_of(one), state_of(other)), before)

    def test_bounds_hold_of_what_was_poured(self):
        for room, kinds, most_weight in ((2, 6, 3), (4, 20, 10 ** 12), (64, 150, 9)):
            rows = rows_of(room, 900, kinds, most_weight)
            parts = [frequent_of(room, rows[start:start + 150]) for start in range(0, 900, 150)]
            poured = parts[0]
            for part in parts[1:]:
                poured = poured_frequent(poured, part)
            for thing, weight in rows_of(room + 1, 100, kinds, most_weight):
                poured.add(thing, weight)
                rows.append((thing, weight))
            weights = true_weights(rows)
            self.assertEqual(poured.total, sum(weights.values()))
            self.assertLessEqual(len(poured.counts), room)
            self.assertLessEqual(sum(poured.counts.values()) + (room + 1) * poured.lost, poured.total)
            for thing in list(weights) + [2 ** 60 - 1]:
                self.assertTrue(poured.low(thing) <= weights.get(thing, 0) <= poured.high(thing))


class UnlikeTest(unittest.TestCase):
    def test_rooms_that_differ_are_refused(self):
        pairs = (
            (Frequent(2), Frequent(4)),
            (frequent_of(4, [(1, 1)]), frequent_of(2, [(1, 1)])),
            (frequent_of(64, [(1, 1)]), Frequent(62)),
        )
        for one, other in pairs:
            before = (state_of(one), state_of(other))
            with self.assertRaises(Unlike) as caught:
                poured_frequent(one, other)
            self.assertIsInstance(caught.exception, KeepError)
            self.assertIsInstance(caught.exception, ValueError)
            for refusal in (TooFine, OutOfReach, TooManyOff, BadText):
                self.assertNotIsInstance(caught.exception, refusal)
            self.assertEqual((state_of(one), state_of(other)), before)


if __name__ == "__main__":
    unittest.main()
