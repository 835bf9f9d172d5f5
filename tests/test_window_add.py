import unittest

from sketchbounds.window import Window
from streams import fields_of, numbers_of, window_of


def weights_of(seed, many, most_weight, idles):
    """Weights, and now and then so many arrivals without weight, as numbers below 0."""
    told = []
    for state in numbers_of(seed, many):
        if idles and (state >> 20) % 5 == 0:
            told.append(-((state >> 30) % idles) - 1)
        else:
            told.append((state >> 30) % most_weight + 1)
    return told


class Model:
    """The settling, written another way: by places from the end, each sum taken anew."""

    def __init__(self, room, reach):
        self.room, self.reach, self.clock, self.boxes = room, reach, 0, []

    def arrive(self, weight):
        if weight < 0:
            self.clock -= weight
        else:
            self.clock += 1
            self.boxes.append((self.clock, self.clock, weight))
        while self.boxes and self.boxes[0][1] <= self.clock - self.reach:
            self.boxes.pop(0)
        hand = len(self.boxes) - 1
        while hand > 0:
            old, new = self.boxes[hand - 1], self.boxes[hand]
            newer = sum(box[2] for box in self.boxes[hand + 1:])
            if self.room * (old[2] + new[2]) <= newer:
                self.boxes[hand - 1:hand + 1] = [(old[0], new[1], old[2] + new[2])]
            hand -= 1


class FieldsTest(unittest.TestCase):
    def test_the_fields_at_first(self):
        for room, reach in ((2, 1), (4, 100), (64, 10 ** 9)):
            window = Window(room, reach)
            self.assertEqual(fields_of(window), {"room": room, "reach": reach, "clock": 0, "boxes": []})

    def test_the_fields_behind_each_add(self):
        window = Window(2, 10)
        ones = [(place, place, 1) for place in range(1, 13)]
        steps = (
            ones[:1],
            ones[:2],
            ones[:3],
            ones[:4],
            ones[:5],
            [(1, 2, 2)] + ones[2:6],
            [(1, 2, 2)] + ones[2:7],
            [(1, 2, 2), (3, 4, 2)] + ones[4:8],
            [(1, 2, 2), (3, 4, 2)] + ones[4:9],
            [(1, 2, 2), (3, 4, 2), (5, 6, 2)] + ones[6:10],
            [(1, 2, 2), (3, 4, 2), (5, 6, 2)] + ones[6:11],
            [(3, 4, 2), (5, 6, 2), (7, 8, 2)] + ones[8:12],
        )
        for place, boxes in enumerate(steps):
            window.add(1)
            self.assertEqual((window.clock, window.boxes), (place + 1, boxes))
            self.assertTrue(all(type(box) is tuple for box in window.boxes))

    def test_the_fields_behind_each_idle(self):
        window = Window(2, 10)
        steps = (
            (-3, 3, []),
            (5, 4, [(4, 4, 5)]),
            (-2, 6, [(4, 4, 5)]),
            (7, 7, [(4, 4, 5), (7, 7, 7)]),
            (23, 8, [(4, 4, 5), (7, 7, 7), (8, 8, 23)]),
            (1, 9, [(4, 7, 12), (8, 8, 23), (9, 9, 1)]),
            (-7, 16, [(4, 7, 12), (8, 8, 23), (9, 9, 1)]),
            (-1, 17, [(8, 8, 23), (9, 9, 1)]),
            (-10 ** 12, 10 ** 12 + 17, []),
            (10 ** 12, 10 ** 12 + 18, [(10 ** 12 + 18, 10 ** 12 + 18, 10 ** 12)]),
        )
        for weight, clock, boxes in steps:
            if weight < 0:
                self.assertIsNone(window.idle(-weight))
            else:
                self.assertIsNone(window.add(weight))
            self.assertEqual((window.clock, window.boxes), (clock, boxes))

    def test_two_objects_share_nothing(self):
        one, other = Window(2, 9), Window(2, 9)
        one.add(1)
        self.assertEqual((other.clock, other.boxes), (0, []))

    def test_window_stands_under_no_other_class(self):
        self.assertEqual(Window.__bases__, (object,))


class SettleTest(unittest.TestCase):
    def test_two_of_just_the_share_become_one(self):
        for room in (2, 64):
            share = 3 * room
            self.assertEqual(window_of(room, 9, [1, 2, share]).boxes, [(1, 2, 3), (3, 3, share)])
            window = window_of(room, 9, [1, 2, share - 1])
            self.assertEqual(window.boxes, [(1, 1, 1), (2, 2, 2), (3, 3, share - 1)])
            window.add(1)
            self.assertEqual(window.boxes, [(1, 2, 3), (3, 3, share - 1), (4, 4, 1)])

    def test_what_became_one_goes_on_to_the_next_older(self):
        window = window_of(2, 9, [1, 1, 1, 1, 100])
        self.assertEqual(window.boxes, [(1, 4, 4), (5, 5, 100)])
        window = window_of(2, 9, [1, 9, 1, 1, 7])
        self.assertEqual(window.boxes, [(1, 1, 1), (2, 2, 9), (3, 4, 2), (5, 5, 7)])

    def test_the_box_at_hand_is_not_among_the_newer_ones(self):
        self.assertEqual(window_of(2, 9, [1, 4]).boxes, [(1, 1, 1), (2, 2, 4)])
        self.assertEqual(window_of(2, 9, [1, 10 ** 12]).boxes, [(1, 1, 1), (2, 2, 10 ** 12)])

    def test_boxes_left_out_first_count_for_nothing(self):
        window = window_of(2, 2, [1, 1, 1])
        self.assertEqual(window.boxes, [(2, 2, 1), (3, 3, 1)])

    def test_a_box_at_the_edge_of_reach(self):
        window = window_of(2, 3, [5, -2])
        self.assertEqual((window.clock, window.boxes), (3, [(1, 1, 5)]))
        window.idle(1)
        self.assertEqual((window.clock, window.boxes), (4, []))
        window = window_of(2, 3, [1, 1, 100, -1])
        self.assertEqual(window.boxes, [(1, 2, 2), (3, 3, 100)])
        window.idle(1)
        self.assertEqual(window.boxes, [(3, 3, 100)])

    def test_reach_1(self):
        window = Window(2, 1)
        for place in range(1, 6):
            window.add(place)
            self.assertEqual((window.clock, window.boxes), (place, [(place, place, place)]))
        window.idle(1)
        self.assertEqual((window.clock, window.boxes), (6, []))

    def test_the_greatest_reach(self):
        window = window_of(64, 10 ** 9, [7, -(10 ** 9 - 1)])
        self.assertEqual((window.clock, window.boxes), (10 ** 9, [(1, 1, 7)]))
        window.idle(1)
        self.assertEqual((window.clock, window.boxes), (10 ** 9 + 1, []))

    def test_idle_of_reach_leaves_nothing(self):
        window = window_of(2, 50, [3] * 40 + [-49])
        self.assertEqual(window.boxes[-1], (40, 40, 3))
        window = window_of(2, 50, [3] * 40 + [-50])
        self.assertEqual((window.clock, window.boxes), (90, []))

    def test_long_streams_against_the_model(self):
        shapes = ((2, 1, 3, 2), (2, 10 ** 9, 1, 0), (2, 40, 9, 7), (4, 200, 10 ** 12, 30), (64, 10 ** 9, 5, 10 ** 6))
        for room, reach, most_weight, idles in shapes:
            for seed in range(3):
                window, model = Window(room, reach), Model(room, reach)
                for weight in weights_of(seed, 400, most_weight, idles):
                    if weight < 0:
                        window.idle(-weight)
                    else:
                        window.add(weight)
                    model.arrive(weight)
                    self.assertEqual((window.clock, window.boxes), (model.clock, model.boxes))

    def test_boxes_that_were_read_stay_as_they_were(self):
        window = window_of(2, 9, [1, 1])
        read = window.boxes
        window.add(100)
        window.idle(3)
        self.assertEqual(read, [(1, 1, 1), (2, 2, 1)])

    def test_nothing_is_refused_somewhat_beyond_the_bounds(self):
        window = window_of(66, 10 ** 9 + 1, [10 ** 12 + 1, -(10 ** 12 + 1), 3])
        self.assertEqual(window.clock, 10 ** 12 + 3)


if __name__ == "__main__":
    unittest.main()
