import unittest

from sketchbounds.distinct import Distinct, poured_distinct
from sketchbounds.errors import Unlike
from sketchbounds.marks import MOST, mark, unspread
from streams import check_pouring, check_refused, distinct_of, fields_of, numbers_of

SMALL = [state >> 4 for state in numbers_of(3, 400)]
# Things of each mark from 0 to 60, several of the lower ones.
HIGH = [unspread(odd * 2 ** level % MOST) for odd in (1, 3, 5, 7, 9) for level in range(58)]
HIGH = HIGH + [unspread(2 ** 58), unspread(3 * 2 ** 58), unspread(2 ** 59), 0]


def plain(room, things):
    """Level and kept as the words tell them, of the set of all things that came."""
    came = set(things)
    level = 0
    while len([thing for thing in came if mark(thing) >= level]) > room:
        level += 1
    return (level, sorted(thing for thing in came if mark(thing) >= level))


def mixed(things, step):
    return [things[place * step % len(things)] for place in range(len(things))]


def orders(things):
    return (things, things[::-1], sorted(things), sorted(things, key=mark), sorted(things, key=mark, reverse=True))


def go_on(distinct):
    for thing in HIGH:
        distinct.add(thing)


class AddTest(unittest.TestCase):
    def test_the_fields_at_first(self):
        for room in (2, 64):
            self.assertEqual(fields_of(Distinct(room)), {"room": room, "arrivals": 0, "level": 0, "kept": []})

    def test_by_hand(self):
        distinct = Distinct(2)
        marks = {thing: mark(thing) for thing in (1, 2, 3, 4, 6, 8, 0)}
        self.assertEqual(marks, {1: 0, 2: 1, 3: 0, 4: 2, 6: 1, 8: 3, 0: 60})
        steps = (
            (3, 0, [3]), (3, 0, [3]), (2, 0, [2, 3]), (2, 0, [2, 3]), (1, 1, [2]), (3, 1, [2]), (6, 1, [2, 6]),
            (8, 2, [8]), (6, 2, [8]), (4, 2, [4, 8]), (0, 3, [0, 8]), (8, 3, [0, 8]), (4, 3, [0, 8]),
        )
        for place, (thing, level, kept) in enumerate(steps):
            self.assertIsNone(distinct.add(thing))
            self.assertEqual((distinct.arrivals, distinct.level, distinct.kept), (place + 1, level, kept))

    def test_room_fits_and_one_more_does_not(self):
        for room in (2, 64):
            things = [2 * place + 1 for place in range(room)]
            distinct = distinct_of(room, things + things)
            self.assertEqual((distinct.arrivals, distinct.level, distinct.kept), (2 * room, 0, things))
            distinct.add(2 * room + 1)
            self.assertEqual((distinct.arrivals, distinct.level, distinct.kept), (2 * room + 1, 1, []))

    def test_several_levels_at_once(self):
        things = [unspread(odd * 2 ** 20) for odd in (1, 3, 5)]
        distinct = distinct_of(2, things[:2])
        self.assertEqual((distinct.level, distinct.kept), (0, sorted(things[:2])))
        distinct.add(things[2])
        self.assertEqual((distinct.level, distinct.kept), (21, []))
        distinct.add(0)
        self.assertEqual((distinct.level, distinct.kept), (21, [0]))

    def test_the_highest_level(self):
        things = [0, unspread(2 ** 59), unspread(2 ** 58), unspread(3 * 2 ** 58)]
        for order in orders(things):
            distinct = distinct_of(2, order)
            self.assertEqual((distinct.level, distinct.kept), (59, sorted([0, unspread(2 ** 59)])))

    def test_each_step_against_a_plain_set(self):
        for room in (2, 4, 64):
            for things in (SMALL, mixed(HIGH, 11), list(range(300))):
                for order in orders(things):
                    distinct = Distinct(room)
                    for place, thing in enumerate(order[:150]):
                        distinct.add(thing)
                        if place % 3 == 0 or place == 149:
                            self.assertEqual((distinct.level, distinct.kept), plain(room, order[:place + 1]))
                            self.assertEqual(distinct.arrivals, place + 1)

    def test_the_order_and_how_often_change_nothing_else(self):
        for room in (2, 6, 64):
            things = SMALL[:120] + HIGH
            told = [fields_of(distinct_of(room, order + order[::3])) for order in orders(things)]
            self.assertTrue(all(fields == told[0] for fields in told))
            once = distinct_of(room, things)
            self.assertEqual((once.level, once.kept), (told[0]["level"], told[0]["kept"]))

    def test_kept_that_was_read_stays_as_it_was(self):
        distinct = distinct_of(2, [3])
        read = distinct.kept
        go_on(distinct)
        self.assertEqual(read, [3])

    def test_distinct_stands_under_no_other_class(self):
        self.assertEqual(Distinct.__bases__, (object,))

    def test_nothing_is_refused_somewhat_beyond_the_bounds(self):
        distinct = distinct_of(66, [MOST, MOST + 1, 2 * MOST])
        self.assertEqual((distinct.arrivals, distinct.level), (3, 0))


class PouredTest(unittest.TestCase):
    def test_as_if_the_things_of_both_had_come(self):
        for room in (2, 4, 64):
            for things in (SMALL, mixed(HIGH, 11), list(range(300)), SMALL[:3]):
                for at in (0, 1, 2, 50, len(things)):
                    one, other = distinct_of(room, things[:at]), distinct_of(room, things[at // 2:])
                    for poured in (poured_distinct(one, other), poured_distinct(other, one)):
                        self.assertIsInstance(poured, Distinct)
                        self.assertEqual((poured.level, poured.kept), plain(room, things))
                        self.assertEqual(poured.arrivals, one.arrivals + other.arrivals)
                        self.assertEqual(poured.room, room)

    def test_levels_that_differ(self):
        high = distinct_of(2, [unspread(odd * 2 ** 20) for odd in (1, 3, 5)])
        low = distinct_of(2, [1, 0])
        for poured in (poured_distinct(high, low), poured_distinct(low, high)):
            self.assertEqual(fields_of(poured), {"room": 2, "arrivals": 5, "level": 21, "kept": [0]})

    def test_one_with_itself(self):
        for things in ([3, 1], SMALL, []):
            one = distinct_of(2, things)
            poured = poured_distinct(one, one)
            self.assertEqual((poured.level, poured.kept), (one.level, one.kept))
            self.assertEqual(poured.arrivals, 2 * len(things))

    def test_all_go_on_by_themselves(self):
        check_pouring(self, poured_distinct, lambda: distinct_of(4, SMALL), lambda: distinct_of(4, [5]), go_on)
        check_pouring(self, poured_distinct, lambda: distinct_of(4, [1, 2]), lambda: Distinct(4), go_on)

    def test_rooms_that_differ_are_refused(self):
        check_refused(self, Unlike, poured_distinct, Distinct(2), Distinct(4))
        check_refused(self, Unlike, poured_distinct, distinct_of(64, [1]), distinct_of(62, [1]))


class BoundsTest(unittest.TestCase):
    def test_exact_while_level_is_0(self):
        for room in (2, 64):
            distinct = Distinct(room)
            self.assertIs(distinct.exact(), True)
            self.assertEqual(distinct.bounds(), (0, 0))
            for many in range(1, room + 1):
                for again in range(2):
                    distinct.add(2 * many + 1)
                    self.assertIs(distinct.exact(), True)
                    self.assertEqual(distinct.bounds(), (many, many))
            distinct.add(1)
            self.assertIs(distinct.exact(), False)
            self.assertEqual(distinct.bounds(), (room + 1, 2 * room + 1))

    def test_high_is_arrivals_where_that_is_less(self):
        distinct = distinct_of(2, [1, 3, 5, 5, 5])
        self.assertEqual(distinct.bounds(), (3, 5))
        self.assertIs(type(distinct.bounds()), tuple)

    def test_high_is_what_is_left_of_all_things_where_that_is_less(self):
        for level in (1, 2, 30, 59, 60):
            for kept in ([], [0]):
                distinct = Distinct(2)
                # No test can wait for so many arrivals.
                distinct.arrivals, distinct.level, distinct.kept = 10 ** 30, level, kept
                left = len(kept) + 2 ** 60 - 2 ** (60 - level)
                self.assertEqual(distinct.bounds(), (3, left))
                for arrivals, high in ((left, left), (left - 1, left - 1), (left + 1, left)):
                    distinct.arrivals = arrivals
                    self.assertEqual(distinct.bounds(), (3, high))

    def test_doubled_till_arrivals_are_more_than_all_things(self):
        distinct = distinct_of(2, [1, 3, 5, 2])
        for step in range(61):
            distinct = poured_distinct(distinct, distinct)
        self.assertEqual((distinct.level, distinct.kept, distinct.arrivals), (1, [2], 4 * 2 ** 61))
        self.assertEqual(distinct.bounds(), (3, 1 + 2 ** 59))

    def test_the_true_number_lies_between(self):
        for room in (2, 4, 64):
            for things in (SMALL, mixed(HIGH, 11), list(range(200)) * 2, [8, 8, 8, 8]):
                distinct = Distinct(room)
                for place, thing in enumerate(things):
                    distinct.add(thing)
                    low, high = distinct.bounds()
                    self.assertTrue(low <= len(set(things[:place + 1])) <= high)

    def test_asking_changes_nothing(self):
        distinct = distinct_of(2, SMALL)
        before = fields_of(distinct)
        distinct.exact()
        distinct.bounds()
        self.assertEqual(fields_of(distinct), before)


if __name__ == "__main__":
    unittest.main()
