import unittest

from sketchbounds.frequent import Frequent
from streams import frequent_of, rows_of, state_of


class Model:
    """The fit, written another way: the cut is the greatest number that more than room counts reach."""

    def __init__(self, room):
        self.room = room
        self.total = 0
        self.lost = 0
        self.counts = {}

    def add(self, thing, weight):
        self.total += weight
        self.counts[thing] = self.counts.get(thing, 0) + weight
        if len(self.counts) > self.room:
            reached = [
                cut for cut in self.counts.values()
                if sum(1 for count in self.counts.values() if count >= cut) > self.room
            ]
            cut = max(reached)
            self.counts = {key: count - cut for key, count in self.counts.items() if count > cut}
            self.lost += cut


class FieldsTest(unittest.TestCase):
    def test_the_fields_at_first(self):
        for room in (2, 4, 64):
            fresh = Frequent(room)
            self.assertEqual(state_of(fresh), (room, 0, 0, {}))
            self.assertIs(type(fresh.counts), dict)

    def test_the_fields_behind_each_add(self):
        frequent = Frequent(2)
        steps = (
            ((5, 3), (3, 0, {5: 3})),
            ((9, 4), (7, 0, {5: 3, 9: 4})),
            ((5, 1), (8, 0, {5: 4, 9: 4})),
            ((1, 1), (9, 1, {5: 3, 9: 3})),
            ((1, 2), (11, 3, {5: 1, 9: 1})),
            ((7, 10), (21, 4, {7: 9})),
            ((5, 2), (23, 4, {7: 9, 5: 2})),
            ((0, 1), (24, 5, {7: 8, 5: 1})),
        )
        for row, (total, lost, counts) in steps:
            frequent.add(*row)
            self.assertEqual(state_of(frequent), (2, total, lost, counts))

    def test_add_tells_nothing(self):
        self.assertIsNone(Frequent(2).add(1, 1))

    def test_two_objects_share_nothing(self):
        one, other = Frequent(2), Frequent(2)
        one.add(1, 1)
        self.assertEqual(state_of(other), (2, 0, 0, {}))

    def test_frequent_stands_under_no_other_class(self):
        self.assertEqual(Frequent.__bases__, (object,))


class FitTest(unittest.TestCase):
    def test_room_things_fit(self):
        for room in (2, 64):
            frequent = frequent_of(room, [(thing, 1) for thing in range(room)])
            self.assertEqual(state_of(frequent), (room, room, 0, {thing: 1 for thing in range(room)}))

    def test_room_and_one_alike_things_leave_nothing(self):
        for room in (2, 64):
            for weight in (1, 10 ** 12):
                frequent = frequent_of(room, [(thing, weight) for thing in range(room + 1)])
                self.assertEqual(state_of(frequent), (room, (room + 1) * weight, weight, {}))

    def test_room_and_one_unlike_counts(self):
        for room in (2, 64):
            frequent = frequent_of(room, [(thing, thing + 5) for thing in range(room + 1)])
            counts = {thing: thing for thing in range(1, room + 1)}
            self.assertEqual(frequent.counts, counts)
            self.assertEqual(frequent.lost, 5)
            self.assertEqual(frequent.total, sum(range(5, room + 6)))

    def test_alike_counts_at_the_cut(self):
        frequent = frequent_of(4, [(1, 3), (2, 9), (3, 3), (4, 3), (5, 8)])
        self.assertEqual(state_of(frequent), (4, 26, 3, {2: 6, 5: 5}))

    def test_a_new_thing_of_weight_1_among_heavy_ones(self):
        for room in (2, 64):
            rows = [(thing, 10 ** 12) for thing in range(room)] + [(1000, 1)]
            frequent = frequent_of(room, rows)
            self.assertEqual(frequent.counts, {thing: 10 ** 12 - 1 for thing in range(room)})
            self.assertEqual(frequent.lost, 1)

    def test_a_heavy_thing_among_those_of_weight_1(self):
        for room in (2, 64):
            rows = [(thing, 1) for thing in range(room)] + [(2 ** 60 - 1, 10 ** 12)]
            frequent = frequent_of(room, rows)
            self.assertEqual(frequent.counts, {2 ** 60 - 1: 10 ** 12 - 1})
            self.assertEqual(frequent.lost, 1)

    def test_a_thing_that_has_a_count_never_makes_counts_fall(self):
        frequent = frequent_of(2, [(1, 5), (2, 1)])
        for step in range(10):
            frequent.add(2, 1)
        self.assertEqual(state_of(frequent), (2, 16, 0, {1: 5, 2: 11}))

    def test_a_thing_that_was_left_out_begins_anew(self):
        frequent = frequent_of(2, [(1, 5), (2, 2), (3, 2)])
        self.assertEqual(frequent.counts, {1: 3})
        frequent.add(2, 7)
        self.assertEqual(state_of(frequent), (2, 16, 2, {1: 3, 2: 7}))
        frequent.add(3, 4)
        self.assertEqual(state_of(frequent), (2, 20, 5, {2: 4, 3: 1}))

    def test_thing_0_is_a_thing(self):
        self.assertEqual(frequent_of(2, [(0, 4), (0, 5)]).counts, {0: 9})

    def test_sums_of_any_size(self):
        frequent = Frequent(2)
        for step in range(30):
            frequent.add(step % 3, 10 ** 12)
        self.assertEqual(state_of(frequent), (2, 30 * 10 ** 12, 10 * 10 ** 12, {}))

    def test_long_streams_against_the_model(self):
        for room, kinds, most_weight in ((2, 5, 3), (2, 40, 10 ** 12), (4, 9, 1), (6, 12, 7), (64, 150, 4)):
            for seed in range(4):
                frequent, model = Frequent(room), Model(room)
                for thing, weight in rows_of(seed, 400, kinds, most_weight):
                    frequent.add(thing, weight)
                    model.add(thing, weight)
                    self.assertEqual(state_of(frequent), state_of(model))
                    self.assertLessEqual(len(frequent.counts), room)
                    self.assertTrue(all(count >= 1 for count in frequent.counts.values()))
                self.assertGreater(frequent.lost, 0)

    def test_counts_that_were_read_stay_as_they_were(self):
        frequent = frequent_of(2, [(1, 5), (2, 2)])
        read = frequent.counts
        frequent.add(1, 1)
        self.assertEqual(read, {1: 5, 2: 2})
        frequent.add(3, 9)
        self.assertEqual(read, {1: 5, 2: 2})

    def test_nothing_is_refused_somewhat_beyond_the_bounds(self):
        for room in (1, 3, 66):
            frequent = frequent_of(room, [(2 ** 60 + 5, 10 ** 12 + 1), (2 ** 61, 1), (3, 2)])
            self.assertEqual(frequent.room, room)
            self.assertEqual(frequent.total, 10 ** 12 + 4)


if __name__ == "__main__":
    unittest.main()
