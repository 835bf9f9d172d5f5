import unittest

from sketchbounds.marks import MOST, SPREAD, mark, spread, unspread

EDGES = (0, 1, 2 ** 59, 2 ** 60 - 1)
ORDINARY = (2, 3, 7, 10, 1000, 65536, 123456789, 10 ** 12, 10 ** 17 + 3, 2 ** 59 - 1, 2 ** 59 + 1, 2 ** 60 - 2)


def halvings(number):
    if number == 0:
        return 60
    figures = bin(number)
    return len(figures) - len(figures.rstrip("0"))


class SpreadTest(unittest.TestCase):
    def test_the_two_numbers(self):
        self.assertEqual(MOST, 2 ** 60)
        self.assertEqual(SPREAD, 770093176312745717)
        self.assertIs(type(MOST), int)
        self.assertIs(type(SPREAD), int)

    def test_spread_of_the_edges(self):
        self.assertEqual(spread(0), 0)
        self.assertEqual(spread(1), 770093176312745717)
        self.assertEqual(spread(2 ** 59), 2 ** 59)
        self.assertEqual(spread(2 ** 60 - 1), 2 ** 60 - 770093176312745717)

    def test_spread_of_ordinary_things(self):
        self.assertEqual(spread(2), 2 * 770093176312745717 - 2 ** 60)
        self.assertEqual(spread(3), 3 * 770093176312745717 - 2 * 2 ** 60)
        for thing in ORDINARY:
            self.assertEqual(spread(thing), (thing * 770093176312745717) % 2 ** 60)

    def test_unspread_of_the_edges(self):
        self.assertEqual(unspread(0), 0)
        self.assertEqual(unspread(SPREAD), 1)
        self.assertEqual(unspread(2 ** 59), 2 ** 59)
        self.assertEqual(unspread(2 ** 60 - SPREAD), 2 ** 60 - 1)

    def test_each_undoes_the_other(self):
        things = EDGES + ORDINARY + tuple(range(3000)) + tuple(range(2 ** 60 - 500, 2 ** 60))
        for thing in things:
            self.assertEqual(unspread(spread(thing)), thing)
            self.assertEqual(spread(unspread(thing)), thing)

    def test_both_tell_numbers_from_0_below_most(self):
        for thing in EDGES + ORDINARY:
            for told in (spread(thing), unspread(thing)):
                self.assertTrue(0 <= told < 2 ** 60)
                self.assertIs(type(told), int)


class MarkTest(unittest.TestCase):
    def test_marks_of_the_edges(self):
        self.assertEqual(mark(0), 60)
        self.assertEqual(mark(1), 0)
        self.assertEqual(mark(2 ** 59), 59)
        self.assertEqual(mark(2 ** 60 - 1), 0)

    def test_marks_of_ordinary_things(self):
        for thing in ORDINARY + tuple(range(1, 2000)):
            self.assertEqual(mark(thing), halvings((thing * SPREAD) % 2 ** 60))

    def test_each_mark_from_0_to_59_is_told(self):
        for level in range(60):
            for odd in (1, 3, 5, 2 ** (60 - level) - 1):
                number = odd * 2 ** level % 2 ** 60
                self.assertEqual(mark(unspread(number)), halvings(number))
            self.assertEqual(mark(unspread(2 ** level)), level)

    def test_how_many_things_have_a_mark_of_a_level_or_more(self):
        for level in range(48, 61):
            many = 2 ** (60 - level)
            things = [unspread(step * 2 ** level) for step in range(many)]
            self.assertEqual(len(set(things)), many)
            self.assertTrue(all(mark(thing) >= level for thing in things))
            self.assertEqual([thing for thing in things if mark(thing) == 60], [0])
            between = [unspread(step * 2 ** level + 2 ** (level - 1)) for step in range(many)]
            self.assertTrue(all(mark(thing) == level - 1 for thing in between))

    def test_half_of_a_full_row_of_things_is_left_at_each_level(self):
        marks = [mark(thing) for thing in range(2 ** 12)]
        for level in range(13):
            self.assertEqual(len([told for told in marks if told >= level]), 2 ** (12 - level))

    def test_nothing_is_refused_somewhat_beyond_the_bounds(self):
        for thing in (MOST, MOST + 1, -1):
            self.assertTrue(0 <= spread(thing) < MOST)
            self.assertTrue(0 <= unspread(thing) < MOST)
            self.assertTrue(0 <= mark(thing) <= 60)


if __name__ == "__main__":
    unittest.main()
