import unittest

from sketchbounds.errors import OutOfReach, TooManyOff
from sketchbounds.plain import Plain
from streams import check_refused, go_through, put_and_taken, true_answer

SHAPES = ((6, 3), (30, 10 ** 12), (200, 9), (2, 10 ** 12))


def plain_of(rows):
    made = Plain()
    go_through(made, rows)
    return made


def once_each(span):
    return [("put", thing, 1) for thing in range(span)]


class RowsTest(unittest.TestCase):
    def test_by_hand(self):
        rows = [("put", 7, 5), ("take", 7, 2), ("idle", 3), ("put", 2, 1), ("put", 7, 1), ("take", 9, 4)]
        plain = plain_of(rows)
        self.assertEqual([plain.net(thing) for thing in (7, 2, 9, 1)], [4, 1, -4, 0])
        self.assertEqual([plain.ranked(thing) for thing in (1, 2, 6, 7, 8, 9, 10)], [0, 1, 1, 5, 5, 1, 1])
        self.assertEqual((plain.all_put(), plain.distinct()), (7, 2))
        self.assertEqual([plain.often(*share) for share in ((1, 1), (6, 7), (5, 7), (1, 7), (1, 8))], [
            [], [], [7], [7], [2, 7]])
        self.assertEqual([plain.by_rank(k) for k in (1, 2, 7)], [2, 7, 7])
        self.assertEqual([plain.last(many) for many in (1, 2, 3, 6, 7, 8, 9, 100)], [0, 1, 2, 2, 2, 7, 7, 7])

    def test_rows_tell_nothing(self):
        plain = Plain()
        self.assertEqual((plain.put(1, 1), plain.take(1, 1), plain.idle(1)), (None, None, None))

    def test_without_rows(self):
        plain = Plain()
        self.assertEqual((plain.net(3), plain.ranked(3), plain.all_put(), plain.distinct()), (0, 0, 0, 0))
        self.assertEqual((plain.often(1, 1), plain.often(1, 10 ** 6), plain.last(1), plain.last(10 ** 30)), ([], [], 0, 0))
        for k in (0, 1, 2, -1):
            check_refused(self, OutOfReach, plain.by_rank, k)
        self.assertEqual((plain.off(1), plain.off(2)), ([(0, -1)], [(0, -1), (1, -1)]))
        for span in (3, 4, 1000, 10 ** 9):
            check_refused(self, TooManyOff, plain.off, span)

    def test_two_are_apart(self):
        one, other = Plain(), Plain()
        one.put(1, 5)
        self.assertEqual((other.all_put(), other.net(1), other.last(5), other.distinct()), (0, 0, 0, 0))

    def test_no_answer_changes_a_later_one(self):
        plain = plain_of([("put", 0, 3), ("put", 1, 1)])
        told = (plain.often(1, 5), plain.off(3))
        self.assertEqual(told, ([0, 1], [(0, 2), (2, -1)]))
        plain.often(1, 5).clear()
        plain.off(3).clear()
        self.assertEqual((plain.often(1, 5), plain.off(3)), told)
        plain.put(2, 10)
        self.assertEqual(told, ([0, 1], [(0, 2), (2, -1)]))


class AgainstAllRowsTest(unittest.TestCase):
    def check(self, plain, rows, word, *numbers):
        self.assertEqual(getattr(plain, word)(*numbers), true_answer(rows, word, *numbers), (word, numbers))

    def check_all(self, plain, rows):
        things = sorted({row[1] for row in rows if row[0] != "idle"})
        for thing in things[::3] + things[-1:] + [0, 5, 2 ** 60 - 1]:
            self.check(plain, rows, "net", thing)
            self.check(plain, rows, "ranked", thing)
        for part, whole in ((1, 1), (1, 2), (1, 9), (2, 65), (1, 10 ** 6), (999999, 10 ** 6)):
            self.check(plain, rows, "often", part, whole)
        total = true_answer(rows, "all_put")
        for k in (1, 2, total // 3, total // 2, total - 1, total):
            if 1 <= k <= total:
                self.check(plain, rows, "by_rank", k)
        for many in (1, 2, 3, 10, 50, 1000, 10 ** 9, 10 ** 14, 10 ** 40):
            self.check(plain, rows, "last", many)
        self.check(plain, rows, "all_put")
        self.check(plain, rows, "distinct")

    def test_streams(self):
        for seed, (kinds, most_weight) in enumerate(SHAPES):
            rows = put_and_taken(seed, 150, kinds, most_weight)
            plain = Plain()
            for many, row in enumerate(rows, start=1):
                go_through(plain, [row])
                if many % 11 == 1:
                    self.check_all(plain, rows[:many])
            self.check_all(plain, rows)

    def test_greatest_numbers(self):
        rows = [("put", 2 ** 60 - 1, 10 ** 12), ("idle", 10 ** 12), ("take", 2 ** 60 - 1, 10 ** 12)]
        rows += [("put", 0, 10 ** 12), ("idle", 10 ** 12), ("put", 0, 1)]
        plain = plain_of(rows * 3)
        self.check_all(plain, rows * 3)
        for many in range(10 ** 12 - 3, 10 ** 12 + 4):
            self.check(plain, rows * 3, "last", many)
            self.check(plain, rows * 3, "last", 2 * many)

    def test_each_place_by_rank(self):
        rows = put_and_taken(4, 60, 9, 5)
        plain = plain_of(rows)
        places = sorted(row[1] for row in rows if row[0] == "put" for each in range(row[2]))
        self.assertEqual([plain.by_rank(k) for k in range(1, len(places) + 1)], places)
        self.assertEqual(plain.all_put(), len(places))
        for k in (0, -1, -10 ** 9, len(places) + 1, 10 ** 30):
            check_refused(self, OutOfReach, plain.by_rank, k)

    def test_what_is_taken_doesn_t_count_as_put(self):
        plain = plain_of([("take", 5, 3), ("take", 1, 1), ("idle", 4)])
        self.assertEqual((plain.all_put(), plain.distinct(), plain.often(1, 10 ** 6), plain.last(9)), (0, 0, [], 0))
        self.assertEqual((plain.net(5), plain.ranked(5)), (-3, -4))
        check_refused(self, OutOfReach, plain.by_rank, 1)

    def test_last_counts_each_put_each_take_and_each_idle(self):
        weights = [3, 5, 7]
        for between, arrivals in (([], 1), ([("take", 9, 9)], 2), ([("idle", 1)], 2), ([("idle", 10 ** 12)], 10 ** 12 + 1)):
            rows = []
            for weight in weights:
                rows += [("put", 1, weight)] + between
            plain = plain_of(rows)
            told = [plain.last(arrivals * so_many) for so_many in (1, 2, 3, 4)]
            self.assertEqual(told, [7, 12, 15, 15])
            self.assertEqual([plain.last(arrivals * so_many - 1) for so_many in (2, 3, 4)], [7, 12, 15])


class OffTest(unittest.TestCase):
    def check(self, rows, span):
        expected = true_answer(rows, "off", span)
        plain = plain_of(rows)
        if expected == "TooManyOff":
            check_refused(self, TooManyOff, plain.off, span)
        else:
            told = plain.off(span)
            self.assertEqual(told, expected)
            self.assertTrue(type(told) is list and all(type(pair) is tuple for pair in told))
        return expected

    def test_no_one_two_three_things_off(self):
        for span in (3, 4, 50):
            rows = once_each(span)
            self.assertEqual(self.check(rows, span), [])
            self.assertEqual(self.check(rows + [("put", 2, 4)], span), [(2, 4)])
            self.assertEqual(self.check(rows + [("take", 2, 4)], span), [(2, -4)])
            self.assertEqual(self.check(rows[1:], span), [(0, -1)])
            self.assertEqual(self.check(rows[:-1], span), [(span - 1, -1)])
            self.assertEqual(self.check(rows[1:] + [("put", span - 1, 1)], span), [(0, -1), (span - 1, 1)])
            self.assertEqual(self.check(rows[1:-1], span), [(0, -1), (span - 1, -1)])
            self.assertEqual(self.check(rows[1:-1] + [("put", 1, 1)], span), "TooManyOff")
            self.assertEqual(self.check(rows + [("put", 0, 1), ("put", 1, 1), ("take", 2, 1)], span), "TooManyOff")
            self.assertEqual(self.check(rows + [("put", 0, 1), ("take", 0, 1), ("take", 2, 1)], span), [(2, -1)])
            self.assertEqual(self.check(rows[:-3], span), "TooManyOff")

    def test_things_from_span_on_are_left_out(self):
        rows = once_each(5) + [("put", 5, 3), ("put", 6, 3), ("take", 7, 3), ("put", 2 ** 60 - 1, 10 ** 12)]
        self.assertEqual(self.check(rows, 5), [])
        self.assertEqual(self.check(rows, 6), [(5, 2)])
        self.assertEqual(self.check(rows, 7), [(5, 2), (6, 2)])
        self.assertEqual(self.check(rows, 8), "TooManyOff")
        self.assertEqual(self.check(rows, 4), [])

    def test_a_thing_named_and_a_thing_not_named(self):
        self.assertEqual(self.check([("put", 0, 1), ("take", 0, 1)], 1), [(0, -1)])
        self.assertEqual(self.check([("take", 0, 1)], 1), [(0, -2)])
        self.assertEqual(self.check([("take", 1, 10 ** 12)], 2), [(0, -1), (1, -10 ** 12 - 1)])

    def test_a_span_of_a_thousand_million(self):
        for rows in ([], once_each(3), [("put", 10 ** 9 - 1, 1)], put_and_taken(3, 60, 9, 9)):
            self.assertEqual(self.check(rows, 10 ** 9), "TooManyOff")

    def test_streams(self):
        told = []
        for seed in range(60):
            span = seed % 4 + 1
            rows = [(word, *numbers) for word, *numbers in put_and_taken(seed, 7, 3, 3)]
            rows = [row if row[0] == "idle" else (row[0], row[1] % span, row[2]) for row in rows]
            told.append(self.check(rows + once_each(span), span))
        self.assertIn("TooManyOff", told)
        self.assertTrue({1, 2} <= {len(each) for each in told})


if __name__ == "__main__":
    unittest.main()
