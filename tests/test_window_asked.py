import unittest
from fractions import Fraction

from sketchbounds.errors import OutOfReach, Unlike
from sketchbounds.window import Window, followed, most_boxes
from streams import check_pouring, check_refused, fields_of, window_of
from test_window_add import weights_of


def arrivals_of(weights):
    told = []
    for weight in weights:
        told.extend([weight] if weight > 0 else [0] * -weight)
    return told


def go_on(window):
    window.add(5)
    window.idle(2)
    window.add(70)


class LastTest(unittest.TestCase):
    def check(self, window, arrivals):
        self.assertEqual(window.clock, len(arrivals))
        self.assertLessEqual(len(window.boxes), most_boxes(window.room, sum(box[2] for box in window.boxes)))
        for many in range(1, window.reach + 1):
            low, high = window.last(many)
            self.assertTrue(low <= sum(arrivals[-many:]) <= high, (many, low, high))
            self.assertLessEqual((high - low) * window.room, low)
            edge = window.clock - many
            self.assertEqual(low, sum(box[2] for box in window.boxes if box[0] > edge))
            self.assertEqual(high - low, sum(box[2] for box in window.boxes if box[0] <= edge < box[1]))

    def test_by_hand(self):
        window = window_of(2, 10, [1] * 10)
        self.assertEqual(window.boxes[:4], [(1, 2, 2), (3, 4, 2), (5, 6, 2), (7, 7, 1)])
        told = [window.last(many) for many in range(1, 11)]
        self.assertEqual(told, [
            (1, 1), (2, 2), (3, 3), (4, 4), (4, 6), (6, 6), (6, 8), (8, 8), (8, 10), (10, 10),
        ])
        self.assertIs(type(told[0]), tuple)

    def test_the_edge_of_a_box(self):
        window = window_of(2, 50, [1, -3, 1, 9, -4])
        self.assertEqual((window.clock, window.boxes), (10, [(1, 5, 2), (6, 6, 9)]))
        told = [window.last(many) for many in (4, 5, 6, 8, 9, 10, 11, 50)]
        self.assertEqual(told, [(0, 0), (9, 9), (9, 11), (9, 11), (9, 11), (11, 11), (11, 11), (11, 11)])

    def test_of_all_where_there_were_no_more(self):
        window = window_of(64, 10 ** 9, [3, -2, 4])
        for many in (4, 5, 10 ** 9):
            self.assertEqual(window.last(many), (7, 7))

    def test_without_rows(self):
        for window in (Window(2, 1), Window(64, 10 ** 9), window_of(2, 7, [-5]), window_of(2, 7, [5, -7])):
            self.assertEqual((window.last(1), window.last(window.reach)), ((0, 0), (0, 0)))

    def test_reach_1(self):
        window = Window(2, 1)
        for weight in (5, 10 ** 12, 1):
            window.add(weight)
            self.assertEqual(window.last(1), (weight, weight))
        window.idle(1)
        self.assertEqual(window.last(1), (0, 0))

    def test_out_of_reach(self):
        for window in (Window(2, 1), window_of(2, 7, [3] * 9), window_of(64, 10 ** 9, [1])):
            for many in (0, -1, -10 ** 12, window.reach + 1, window.reach + 10 ** 12):
                before = fields_of(window)
                check_refused(self, OutOfReach, window.last, many)
                self.assertEqual(fields_of(window), before)

    def test_against_all_arrivals(self):
        for room, reach, most_weight, idles in ((2, 1, 3, 2), (2, 30, 1, 0), (2, 41, 9, 7), (6, 80, 10 ** 12, 9)):
            for seed in range(3):
                window, arrivals = Window(room, reach), []
                for place, weight in enumerate(weights_of(seed, 250, most_weight, idles)):
                    if weight < 0:
                        window.idle(-weight)
                    else:
                        window.add(weight)
                    arrivals.extend(arrivals_of([weight]))
                    if place % 3 == 0:
                        self.check(window, arrivals)

    def test_against_all_arrivals_with_a_great_room(self):
        weights = weights_of(9, 900, 4, 3)
        self.check(window_of(64, 700, weights), arrivals_of(weights))
        self.check(window_of(2, 3000, weights), arrivals_of(weights))

    def test_followed_against_all_arrivals(self):
        for room, reach, most_weight, idles in ((2, 25, 3, 2), (2, 60, 9, 7), (6, 80, 10 ** 12, 9)):
            parts = [weights_of(seed, 40, most_weight, idles) for seed in range(6)]
            both = window_of(room, reach, parts[0])
            done = list(parts[0])
            for part in parts[1:]:
                both = followed(both, window_of(room, reach, part))
                done = done + part
                self.check(both, arrivals_of(done))
            both = followed(both, both)
            self.check(both, arrivals_of(done + done))
            both.add(3)
            self.check(both, arrivals_of(done + done + [3]))


class FollowedTest(unittest.TestCase):
    def test_the_boxes_of_both(self):
        one = window_of(2, 100, [4, -2, 5])
        other = window_of(2, 100, [-1, 6, -3])
        both = followed(one, other)
        self.assertIsInstance(both, Window)
        self.assertEqual(fields_of(both), {
            "room": 2, "reach": 100, "clock": 9, "boxes": [(1, 1, 4), (4, 4, 5), (6, 6, 6)],
        })
        self.assertEqual(followed(other, one).boxes, [(2, 2, 6), (6, 6, 4), (9, 9, 5)])

    def test_it_is_settled(self):
        one = window_of(2, 100, [1, 1, 1])
        other = window_of(2, 100, [30, 50])
        self.assertEqual(followed(one, other).boxes, [(1, 3, 3), (4, 4, 30), (5, 5, 50)])
        self.assertEqual(followed(other, one).boxes, [(1, 1, 30), (2, 2, 50), (3, 3, 1), (4, 4, 1), (5, 5, 1)])

    def test_boxes_out_of_reach_are_left_out(self):
        one = window_of(2, 5, [1, 2, 3])
        self.assertEqual(followed(one, window_of(2, 5, [-2])).boxes, [(1, 1, 1), (2, 2, 2), (3, 3, 3)])
        self.assertEqual(followed(one, window_of(2, 5, [-3])).boxes, [(2, 2, 2), (3, 3, 3)])
        both = followed(one, window_of(2, 5, [9, -10 ** 12]))
        self.assertEqual((both.clock, both.boxes), (10 ** 12 + 4, []))

    def test_one_with_itself(self):
        one = window_of(2, 100, [1, -1, 30])
        self.assertEqual(fields_of(followed(one, one)), {
            "room": 2, "reach": 100, "clock": 6, "boxes": [(1, 1, 1), (3, 3, 30), (4, 4, 1), (6, 6, 30)],
        })
        one = window_of(2, 2, [7, 7])
        self.assertEqual(followed(one, one).boxes, [(3, 3, 7), (4, 4, 7)])

    def test_with_one_without_rows(self):
        one = window_of(2, 20, weights_of(4, 60, 5, 2))
        for both in (followed(one, Window(2, 20)), followed(Window(2, 20), one)):
            self.assertEqual(fields_of(both), fields_of(one))
            self.assertIsNot(both, one)

    def test_all_go_on_by_themselves(self):
        check_pouring(self, followed, lambda: window_of(2, 9, [5, 3]), lambda: window_of(2, 9, [-4, 1]), go_on)
        check_pouring(self, followed, lambda: window_of(4, 90, [1] * 50), lambda: Window(4, 90), go_on)

    def test_rooms_or_reaches_that_differ_are_refused(self):
        check_refused(self, Unlike, followed, Window(2, 5), Window(4, 5))
        check_refused(self, Unlike, followed, Window(2, 5), Window(2, 6))
        check_refused(self, Unlike, followed, window_of(64, 10 ** 9, [1]), window_of(64, 10 ** 9 - 1, [1]))
        check_refused(self, Unlike, followed, window_of(64, 7, [1]), window_of(62, 7, [1]))


class MostBoxesTest(unittest.TestCase):
    def test_small_totals_by_hand(self):
        # For room 2 the powers are 1.5, 2.25, 3.375, 5.0625, 7.59375, 11.390625.
        told = [most_boxes(2, total) for total in range(13)]
        self.assertEqual(told, [0, 2, 4, 6, 8, 8, 10, 10, 12, 12, 12, 12, 14])
        # For room 4 they are 1.25, 1.5625, 1.953125, 2.44140625, 3.0517578125.
        self.assertEqual([most_boxes(4, total) for total in range(5)], [0, 2, 8, 10, 14])
        self.assertEqual([most_boxes(64, total) for total in (0, 1, 2)], [0, 2, 90])

    def test_totals_near_a_power(self):
        for room in (2, 4, 6, 64):
            for p in (1, 2, 3, 10, 44, 45, 100, 333, 1000):
                power = Fraction(room + 1, room) ** p
                below, above = int(power), int(power) + 1
                self.assertGreaterEqual(most_boxes(room, above), 2 + 2 * p)
                self.assertLess(most_boxes(room, below), 2 + 2 * p)

    def test_each_total_against_the_words(self):
        for room in (2, 4, 64):
            for total in list(range(1, 40)) + [10 ** 6, 10 ** 12, 10 ** 30 + 1]:
                p = 0
                while (room + 1) ** (p + 1) < total * room ** (p + 1):
                    p += 1
                self.assertEqual(most_boxes(room, total), 2 + 2 * p)

    def test_totals_of_any_size(self):
        told = most_boxes(64, 10 ** 2000)
        p = (told - 2) // 2
        self.assertTrue(65 ** p < 10 ** 2000 * 64 ** p)
        self.assertFalse(65 ** (p + 1) < 10 ** 2000 * 64 ** (p + 1))

    def test_no_window_has_more(self):
        for room in (2, 4, 64):
            window = Window(room, 10 ** 9)
            for weight in weights_of(room, 500, 1, 0) + weights_of(room, 500, 10 ** 12, 4):
                if weight < 0:
                    window.idle(-weight)
                else:
                    window.add(weight)
                self.assertLessEqual(len(window.boxes), most_boxes(room, sum(box[2] for box in window.boxes)))
        for first in ([1], [1, 1], [5, 1], [1, 5]):
            window = window_of(2, 9, first)
            self.assertLessEqual(len(window.boxes), most_boxes(2, sum(first)))


if __name__ == "__main__":
    unittest.main()
