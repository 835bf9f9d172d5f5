import unittest

from sketchbounds.rungs import Rungs
from streams import fields_of, rows_of, rungs_of


def counted(rungs):
    return (rungs.total, rungs.over, rungs.under, rungs.turns)


class Model:
    """The settling, written another way: lists by their height, each two taken off the front."""

    def __init__(self, room):
        self.room = room
        self.total = self.over = self.under = self.turns = 0
        self.came = []
        self.lists = {}

    def add(self, thing, weight):
        self.total += weight
        self.came.append(thing)
        for height, bit in enumerate(reversed(bin(weight)[2:])):
            if bit == "1":
                self.lists.setdefault(height, []).append(thing)
        height = 0
        while height <= max(self.lists):
            if len(self.lists.get(height, [])) > self.room:
                self.rise(height)
            height += 1

    def rise(self, height):
        things = sorted(self.lists[height])
        greater = self.turns % 2 == 1
        while len(things) > 1:
            two = [things.pop(0), things.pop(0)]
            self.lists.setdefault(height + 1, []).append(two[greater])
        self.lists[height] = things
        if greater:
            self.under += 2 ** height
        else:
            self.over += 2 ** height
        self.turns += 1

    def rungs(self):
        return [sorted(self.lists.get(height, [])) for height in range(max(self.lists) + 1)]


class FieldsTest(unittest.TestCase):
    def test_the_fields_at_first(self):
        for room in (2, 4, 64):
            rungs = Rungs(room)
            self.assertEqual((rungs.room, rungs.least, rungs.most, rungs.rungs), (room, None, None, []))
            self.assertEqual(counted(rungs), (0, 0, 0, 0))
            self.assertIs(type(rungs.rungs), list)

    def test_the_fields_behind_each_add(self):
        rungs = Rungs(2)
        steps = (
            ((5, 1), (1, 0, 0, 0), 5, 5, [[5]]),
            ((3, 1), (2, 0, 0, 0), 3, 5, [[3, 5]]),
            ((9, 1), (3, 1, 0, 1), 3, 9, [[9], [3]]),
            ((9, 1), (4, 1, 0, 1), 3, 9, [[9, 9], [3]]),
            ((1, 1), (5, 1, 1, 2), 1, 9, [[9], [3, 9]]),
            ((4, 3), (8, 3, 1, 3), 1, 9, [[4, 9], [9], [3]]),
            ((9, 4), (12, 3, 1, 3), 1, 9, [[4, 9], [9], [3, 9]]),
            ((0, 7), (19, 5, 6, 6), 0, 9, [[9], [9], [], [0, 9]]),
        )
        for row, numbers, least, most, lists in steps:
            rungs.add(*row)
            self.assertEqual(counted(rungs), numbers)
            self.assertEqual((rungs.room, rungs.least, rungs.most), (2, least, most))
            self.assertEqual(rungs.rungs, lists)

    def test_add_tells_nothing(self):
        self.assertIsNone(Rungs(2).add(1, 1))

    def test_two_objects_share_nothing(self):
        one, other = Rungs(2), Rungs(2)
        one.add(1, 3)
        self.assertEqual((other.total, other.least, other.rungs), (0, None, []))

    def test_rungs_stands_under_no_other_class(self):
        self.assertEqual(Rungs.__bases__, (object,))

    def test_least_and_most_are_of_all_that_came(self):
        rungs = rungs_of(2, [(50, 1), (0, 1), (2 ** 60 - 1, 1)] + [(60, 1)] * 40)
        self.assertEqual((rungs.least, rungs.most), (0, 2 ** 60 - 1))
        rungs = rungs_of(2, [(50, 1)])
        self.assertEqual((rungs.least, rungs.most), (50, 50))


class WeightsTest(unittest.TestCase):
    def test_a_thing_goes_where_the_bits_of_its_weight_are(self):
        self.assertEqual(rungs_of(2, [(7, 1)]).rungs, [[7]])
        self.assertEqual(rungs_of(2, [(7, 2)]).rungs, [[], [7]])
        self.assertEqual(rungs_of(2, [(7, 11)]).rungs, [[7], [7], [], [7]])
        self.assertEqual(rungs_of(2, [(7, 8), (5, 3)]).rungs, [[5], [5], [], [7]])
        self.assertEqual(rungs_of(2, [(5, 3), (7, 8)]).rungs, [[5], [5], [], [7]])

    def test_the_greatest_weight(self):
        for weight in (10 ** 12, 10 ** 12 - 1, 2 ** 39 - 1, 2 ** 39):
            rungs = rungs_of(64, [(7, weight)])
            self.assertEqual([[7] * int(bit) for bit in reversed(bin(weight)[2:])], rungs.rungs)
            self.assertEqual(counted(rungs), (weight, 0, 0, 0))

    def test_three_of_the_greatest_weight_rise_in_each_list(self):
        rungs = rungs_of(2, [(7, 2 ** 39 - 1), (5, 2 ** 39 - 1), (6, 2 ** 39 - 1)])
        model = Model(2)
        for thing in (7, 5, 6):
            model.add(thing, 2 ** 39 - 1)
        self.assertEqual(rungs.rungs, model.rungs())
        self.assertEqual(rungs.turns, 39)
        self.assertEqual(len(rungs.rungs), 40)
        self.assertEqual((rungs.over, rungs.under), (sum(4 ** h for h in range(20)), sum(2 * 4 ** h for h in range(19))))


class SettleTest(unittest.TestCase):
    def test_a_list_of_just_room_stays(self):
        for room in (2, 64):
            rungs = rungs_of(room, [(thing, 1) for thing in reversed(range(room))])
            self.assertEqual(rungs.rungs, [list(range(room))])
            self.assertEqual(counted(rungs), (room, 0, 0, 0))

    def test_of_room_and_one_the_greatest_stays(self):
        for room in (2, 64):
            rungs = rungs_of(room, [(thing, 1) for thing in reversed(range(room + 1))])
            self.assertEqual(rungs.rungs, [[room], list(range(0, room, 2))])
            self.assertEqual(counted(rungs), (room + 1, 1, 0, 1))

    def test_turns_odd_sends_the_greater_ones(self):
        for room in (2, 64):
            first = [(thing, 1) for thing in range(1000, 1000 + room + 1)]
            rungs = rungs_of(room, first + [(thing, 1) for thing in range(room)])
            self.assertEqual(rungs.turns, 2)
            risen = list(range(1, room, 2)) + list(range(1000, 1000 + room, 2))
            self.assertEqual(rungs.rungs, [[1000 + room], risen])
            self.assertEqual(counted(rungs), (2 * room + 1, 1, 1, 2))

    def test_an_even_number_leaves_nothing_behind(self):
        rungs = rungs_of(2, [(10, 2), (20, 2), (1, 1), (2, 1)])
        self.assertEqual(rungs.rungs, [[1, 2], [10, 20]])
        rungs.add(15, 3)
        self.assertEqual(rungs.rungs, [[15], [], [10, 20]])
        self.assertEqual(counted(rungs), (9, 1, 2, 2))

    def test_an_odd_number_above_room_in_a_higher_list(self):
        rungs = rungs_of(4, [(thing, 2) for thing in (1, 3, 5, 7)] + [(thing, 1) for thing in (10, 20, 30, 40)])
        rungs.add(50, 1)
        self.assertEqual(rungs.rungs, [[50], [], [3, 7, 30]])
        self.assertEqual(counted(rungs), (13, 1, 2, 2))
        rungs = rungs_of(4, [(thing, 2) for thing in (1, 3, 5, 7)] + [(thing, 1) for thing in (10, 20, 30, 40)])
        rungs.add(0, 3)
        self.assertEqual(rungs.rungs, [[40], [20], [0, 3, 7]])
        self.assertEqual(counted(rungs), (15, 1, 2, 2))

    def test_settling_goes_on_through_lists_and_makes_new_ones(self):
        rungs = rungs_of(2, [(9, 4), (8, 4), (7, 2), (6, 2), (5, 1), (4, 1)])
        self.assertEqual(rungs.rungs, [[4, 5], [6, 7], [8, 9]])
        rungs.add(3, 1)
        self.assertEqual(rungs.rungs, [[5], [7], [9], [6]])
        self.assertEqual(counted(rungs), (15, 5, 2, 3))

    def test_settling_passes_over_lists_that_fit(self):
        rungs = rungs_of(2, [(9, 4), (8, 4), (5, 1), (4, 1)])
        rungs.add(1, 5)
        self.assertEqual(rungs.rungs, [[5], [1], [9], [8]])
        self.assertEqual(counted(rungs), (15, 1, 4, 2))

    def test_alike_things(self):
        rungs = rungs_of(2, [(7, 1)] * 3)
        self.assertEqual(rungs.rungs, [[7], [7]])
        rungs = rungs_of(4, [(7, 1), (3, 1), (7, 1), (3, 1), (7, 1)])
        self.assertEqual(rungs.rungs, [[7], [3, 7]])

    def test_long_streams_against_the_model(self):
        for room, kinds, most_weight in ((2, 30, 1), (2, 9, 10 ** 12), (4, 40, 7), (6, 3, 100), (64, 500, 3)):
            for seed in range(3):
                rungs, model = Rungs(room), Model(room)
                for thing, weight in rows_of(seed, 400, kinds, most_weight):
                    rungs.add(thing, weight)
                    model.add(thing, weight)
                    self.assertEqual(rungs.rungs, model.rungs())
                    self.assertEqual(counted(rungs), counted(model))
                    self.assertEqual((rungs.least, rungs.most), (min(model.came), max(model.came)))
                self.assertGreater(rungs.turns, 1)


class OwnTest(unittest.TestCase):
    def test_rungs_that_were_read_stay_as_they_were(self):
        rungs = rungs_of(2, [(1, 3), (2, 3)])
        read = rungs.rungs
        for step in range(5):
            rungs.add(step, 3)
        self.assertEqual(read, [[1, 2], [1, 2]])

    def test_nothing_is_refused_somewhat_beyond_the_bounds(self):
        for room in (1, 3, 66):
            rungs = rungs_of(room, [(2 ** 60 + 5, 10 ** 12 + 1), (2 ** 61, 1), (3, 2)])
            self.assertEqual(rungs.total, 10 ** 12 + 4)
            self.assertEqual(fields_of(rungs)["room"], room)


if __name__ == "__main__":
    unittest.main()
