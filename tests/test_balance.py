import itertools
import math
import unittest

from sketchbounds.balance import Balance, due_sums, poured_balance, root
from sketchbounds.errors import TooManyOff, Unlike
from streams import balance_of, check_pouring, check_refused, fields_of, numbers_of

GREAT = 10 ** 9


def sums_of(pairs):
    return [sum(more * thing ** j for thing, more in pairs) for j in range(4)]


def off_by(span, pairs):
    """A Balance whose things below span are off just by these pairs (the due ones are too many to be put)."""
    balance = Balance(span)
    balance.sums = [due + more for due, more in zip(due_sums(span), sums_of(pairs))]
    return balance


def each_once(span, pairs):
    rows = [(thing, 1) for thing in range(span)]
    return balance_of(span, rows + pairs)


def go_on(balance):
    balance.put(3, 5)
    balance.take(0, 1)


class SumsTest(unittest.TestCase):
    def test_the_fields_at_first(self):
        for span in (1, 2, GREAT):
            self.assertEqual(fields_of(Balance(span)), {"span": span, "sums": [0, 0, 0, 0]})
            self.assertIs(type(Balance(span).sums), list)

    def test_the_sums_behind_each_row(self):
        balance = Balance(10)
        steps = (
            ((3, 2), [2, 6, 18, 54]),
            ((0, 5), [7, 6, 18, 54]),
            ((1, 1), [8, 7, 19, 55]),
            ((9, -4), [4, -29, -305, -2861]),
            ((0, -7), [-3, -29, -305, -2861]),
            ((9, 4), [1, 7, 19, 55]),
        )
        for (thing, weight), sums in steps:
            if weight < 0:
                self.assertIsNone(balance.take(thing, -weight))
            else:
                self.assertIsNone(balance.put(thing, weight))
            self.assertEqual((balance.span, balance.sums), (10, sums))

    def test_thing_0_counts_in_the_first_sum_alone(self):
        self.assertEqual(balance_of(1, [(0, 10 ** 12)]).sums, [10 ** 12, 0, 0, 0])
        self.assertEqual(balance_of(1, [(0, -1)]).sums, [-1, 0, 0, 0])

    def test_great_things_and_weights(self):
        thing = GREAT - 1
        told = balance_of(GREAT, [(thing, 10 ** 12)]).sums
        self.assertEqual(told, [10 ** 12 * thing ** j for j in range(4)])
        self.assertEqual(balance_of(GREAT, [(thing, -10 ** 12)]).sums, [-each for each in told])

    def test_the_order_changes_nothing(self):
        rows = [(state % 50, (state >> 20) % 9 - 10) for state in numbers_of(1, 30)]
        rows = rows + [(thing, -weight) for thing, weight in rows[::2]]
        told = [fields_of(balance_of(50, order)) for order in (rows, rows[::-1], sorted(rows))]
        self.assertTrue(all(fields == told[0] for fields in told))
        self.assertEqual(told[0]["sums"], sums_of(rows))

    def test_sums_that_were_read_stay_as_they_were(self):
        balance = balance_of(10, [(2, 1)])
        read = balance.sums
        go_on(balance)
        self.assertEqual(read, [1, 2, 4, 8])

    def test_two_objects_share_nothing(self):
        one, other = Balance(5), Balance(5)
        one.put(1, 1)
        self.assertEqual(other.sums, [0, 0, 0, 0])

    def test_balance_stands_under_no_other_class(self):
        self.assertEqual(Balance.__bases__, (object,))

    def test_nothing_is_refused_somewhat_beyond_the_bounds(self):
        self.assertEqual(balance_of(GREAT + 1, [(GREAT + 5, 10 ** 12 + 1)]).sums[0], 10 ** 12 + 1)


class PouredTest(unittest.TestCase):
    def test_the_sums_of_both_are_added(self):
        one, other = balance_of(10, [(3, 2), (4, -7)]), balance_of(10, [(9, 1), (0, 5)])
        for poured in (poured_balance(one, other), poured_balance(other, one)):
            self.assertIsInstance(poured, Balance)
            self.assertEqual(fields_of(poured), {"span": 10, "sums": sums_of([(3, 2), (4, -7), (9, 1), (0, 5)])})

    def test_one_with_itself_and_without_rows(self):
        one = balance_of(10, [(3, 2)])
        self.assertEqual(poured_balance(one, one).sums, [4, 12, 36, 108])
        for poured in (poured_balance(one, Balance(10)), poured_balance(Balance(10), one)):
            self.assertEqual(poured.sums, [2, 6, 18, 54])
            self.assertIsNot(poured, one)

    def test_all_go_on_by_themselves(self):
        check_pouring(
            self, poured_balance, lambda: balance_of(9, [(5, 3)]), lambda: balance_of(9, [(1, -4)]), go_on)
        check_pouring(self, poured_balance, lambda: Balance(9), lambda: Balance(9), go_on)

    def test_spans_that_differ_are_refused(self):
        check_refused(self, Unlike, poured_balance, Balance(1), Balance(2))
        check_refused(self, Unlike, poured_balance, balance_of(GREAT, [(1, 1)]), balance_of(GREAT - 1, [(1, 1)]))


class OffTest(unittest.TestCase):
    def test_without_rows(self):
        self.assertEqual(Balance(1).off(), [(0, -1)])
        self.assertEqual(Balance(2).off(), [(0, -1), (1, -1)])
        for span in (3, 4, 5, 6, 7, 100, GREAT - 1, GREAT):
            check_refused(self, TooManyOff, Balance(span).off)

    def test_nothing_is_off(self):
        for span in (1, 2, 3, 10):
            self.assertEqual(each_once(span, []).off(), [])
        self.assertEqual(off_by(GREAT, []).off(), [])

    def test_one_is_off(self):
        for span in (1, 2, 3, 10):
            for thing in range(span):
                for more in (-3, -1, 1, 2, 10 ** 12):
                    self.assertEqual(each_once(span, [(thing, more)]).off(), [(thing, more)])

    def test_two_are_off(self):
        for span in (2, 3, 4, 9):
            for things in itertools.combinations(range(span), 2):
                for more in itertools.product((-10 ** 12, -2, -1, 1, 2, 5), repeat=2):
                    pairs = list(zip(things, more))
                    self.assertEqual(each_once(span, pairs).off(), pairs)

    def test_two_that_weigh_out_one_another(self):
        self.assertEqual(each_once(8, [(5, 1), (2, -1)]).off(), [(2, -1), (5, 1)])
        self.assertEqual(each_once(8, [(0, -6), (7, 6)]).off(), [(0, -6), (7, 6)])

    def test_pairs_in_a_list_by_rising_things(self):
        told = each_once(8, [(7, 2), (1, 3)]).off()
        self.assertEqual(told, [(1, 3), (7, 2)])
        self.assertIs(type(told), list)
        self.assertTrue(all(type(pair) is tuple for pair in told))

    def test_three_are_off(self):
        for pairs in ([(0, 1), (1, 1), (2, 1)], [(1, -1), (2, 2), (3, -1)], [(0, 5), (4, -3), (9, 1)]):
            check_refused(self, TooManyOff, each_once(10, pairs).off)
        check_refused(self, TooManyOff, off_by(GREAT, [(0, 1), (5, -1), (GREAT - 1, 1)]).off)

    def test_three_off_that_have_the_sums_of_two(self):
        # 1, -4, 6, -4, 1 at five things in a row have no sum but 0.
        self.assertEqual(each_once(5, [(0, 1), (2, 6), (4, 1)]).off(), [(1, 4), (3, 4)])
        self.assertEqual(each_once(9, [(3, 1), (5, 6), (7, 1)]).off(), [(4, 4), (6, 4)])
        check_refused(self, TooManyOff, each_once(9, [(3, 1), (5, 7), (7, 1)]).off)

    def test_a_list_of_things_that_are_not_below_span_is_none(self):
        for span in (1, 2, 3, 9, GREAT):
            check_refused(self, TooManyOff, off_by(span, [(span, 1)]).off)
            check_refused(self, TooManyOff, off_by(span, [(0, 2), (span, 1)]).off)
            check_refused(self, TooManyOff, off_by(span, [(-1, 1)]).off)
            check_refused(self, TooManyOff, off_by(span, [(-1, 1), (0, 2)]).off)
            self.assertEqual(off_by(span + 1, [(span, 1)]).off(), [(span, 1)])
            self.assertEqual(off_by(span + 1, [(0, 2), (span, 1)]).off(), [(0, 2), (span, 1)])

    def test_each_sum_off_by_one_is_seen(self):
        for pairs in ([], [(4, 3)], [(2, -1), (7, 5)], [(0, 2), (9, 1)]):
            for place in range(1, 4):
                for change in (-1, 1):
                    balance = off_by(10, pairs)
                    balance.sums[place] += change
                    check_refused(self, TooManyOff, balance.off)

    def test_sums_of_no_whole_things(self):
        cases = (
            ([8, 4, 2, 1], "8 of a thing 1/2"),
            ([16, 16, 20, 28], "8 of 1/2 and 8 of 3/2"),
            ([2, 4, 12, 40], "one of 2 and one of 2, less and more by the root of 2"),
            ([1, 1, -1, -1], "the square of what lies between the two is below 0"),
            ([0, 1, 6, 27], "the two things are alike"),
            ([1, 1, 2, 4], "half of 0 and half of 2"),
            ([0, 0, 1, 0], "the first two sums are right"),
            ([0, 1, 0, 0], "the first sum is right"),
            ([0, 0, 0, 1], "the first three sums are right"),
        )
        for sums, words in cases:
            with self.subTest(words):
                balance = Balance(30)
                balance.sums = [due + each for due, each in zip(due_sums(30), sums)]
                check_refused(self, TooManyOff, balance.off)

    def test_a_great_span(self):
        last = GREAT - 1
        cases = (
            [(0, 1)], [(last, -1)], [(last, 10 ** 30)], [(0, -1), (last, 1)], [(last - 1, 10 ** 12), (last, -10 ** 12)],
            [(123456789, 7), (987654321, -10 ** 40)], [(0, 1), (1, 1)], [(1, -1), (last, -1)],
        )
        for pairs in cases:
            self.assertEqual(off_by(GREAT, pairs).off(), pairs)

    def test_rows_that_hide_one_another(self):
        balance = each_once(6, [(2, 4), (2, -4), (3, -1), (3, 1), (5, 1)])
        self.assertEqual(balance.off(), [(5, 1)])
        balance.take(5, 1)
        self.assertEqual(balance.off(), [])

    def test_the_told_list_is_the_askers_own(self):
        for pairs in ([], [(3, 1)], [(3, 1), (4, 1)]):
            balance = each_once(6, pairs)
            told, again = balance.off(), balance.off()
            told.append((0, 0))
            self.assertEqual((again, balance.off()), (pairs, pairs))
            balance.put(1, 1)
            self.assertEqual(again, pairs)

    def test_asking_changes_nothing(self):
        for balance in (Balance(9), each_once(9, [(3, 1), (4, 1)])):
            before = fields_of(balance)
            try:
                balance.off()
            except TooManyOff:
                pass
            self.assertEqual(fields_of(balance), before)


class AllListsTest(unittest.TestCase):
    """Held against every list of at most two pairs; more than 40 none of these sums asks for."""

    def lists_by_sums(self, span):
        weights = [more for more in range(-40, 41) if more != 0]
        lists = {(0, 0, 0, 0): []}
        for thing in range(span):
            for more in weights:
                lists[tuple(sums_of([(thing, more)]))] = [(thing, more)]
        for things in itertools.combinations(range(span), 2):
            for more in itertools.product(weights, repeat=2):
                pairs = list(zip(things, more))
                sums = tuple(sums_of(pairs))
                self.assertNotIn(sums, lists)
                lists[sums] = pairs
        return lists

    def check(self, span, mores):
        lists = self.lists_by_sums(span)
        for more in itertools.product(mores, repeat=span):
            pairs = [pair for pair in enumerate(more) if pair[1] != 0]
            balance = off_by(span, pairs)
            told = lists.get(tuple(sums_of(pairs)))
            if len(pairs) <= 2:
                self.assertEqual(told, pairs)
            if told is None:
                with self.assertRaises(TooManyOff):
                    balance.off()
            else:
                self.assertEqual(balance.off(), told)

    def test_span_1(self):
        self.check(1, range(-9, 10))

    def test_span_2(self):
        self.check(2, range(-9, 10))

    def test_span_3(self):
        self.check(3, range(-3, 4))

    def test_span_4(self):
        self.check(4, range(-2, 3))

    def test_span_5(self):
        self.check(5, range(-1, 2))


class DueSumsTest(unittest.TestCase):
    def test_small_spans_by_hand(self):
        told = [due_sums(span) for span in (1, 2, 3, 4, 5)]
        self.assertEqual(told, [[1, 0, 0, 0], [2, 1, 1, 1], [3, 3, 5, 9], [4, 6, 14, 36], [5, 10, 30, 100]])
        self.assertTrue(all(type(sums) is list for sums in told))

    def test_small_spans_against_a_plain_sum(self):
        for span in range(1, 60):
            self.assertEqual(due_sums(span), [sum(thing ** j for thing in range(span)) for j in range(4)])

    def test_the_greatest_span(self):
        self.assertEqual(due_sums(GREAT), [
            1000000000,
            499999999500000000,
            333333332833333333500000000,
            249999999500000000250000000000000000,
        ])

    def test_the_told_list_is_the_askers_own(self):
        told = due_sums(5)
        told[0] = 77
        self.assertEqual(due_sums(5), [5, 10, 30, 100])


class RootTest(unittest.TestCase):
    def test_small_numbers(self):
        told = [root(number) for number in range(18)]
        self.assertEqual(told, [0, 1, 1, 1, 2, 2, 2, 2, 2, 3, 3, 3, 3, 3, 3, 3, 4, 4])
        for number in range(5000):
            self.assertEqual(root(number), math.isqrt(number))

    def test_squares_one_less_and_one_more(self):
        for base in [2 ** k + d for k in range(3, 200, 7) for d in (-1, 0, 1)] + [10 ** k for k in range(1, 120, 9)]:
            self.assertEqual(root(base * base), base)
            self.assertEqual(root(base * base - 1), base - 1)
            self.assertEqual(root(base * base + 1), base)
            self.assertEqual(root(base * base + 2 * base), base)

    def test_great_numbers(self):
        for number in (10 ** 400 + 7, 2 ** 3001 - 1, 3 ** 2000):
            self.assertEqual(root(number), math.isqrt(number))
            self.assertIs(type(root(number)), int)


if __name__ == "__main__":
    unittest.main()
