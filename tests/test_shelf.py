import unittest

from sketchbounds.errors import OutOfReach, Unlike
from sketchbounds.keepsake import Keepsake, poured
from sketchbounds.notereader import read_keepsake
from sketchbounds.notes import written
from sketchbounds.shelf import Shelf, cover
from streams import check_refused, fields_of, go_through, keepsake_of, put_and_taken

SHAPES = ((2, 10, 5, 6, 3), (4, 100, 10 ** 9, 20, 10 ** 12), (64, 10 ** 9, 1, 150, 9))


def cover_by_its_words(first, last):
    blocks, at = [], first
    while at != last:
        level = max(level for level in range(64) if at % 2 ** level == 0 and at + 2 ** level <= last)
        blocks.append((level, at))
        at += 2 ** level
    return blocks


def pieces_of(seed, many, kinds, most_weight):
    """Rows of so many pieces, of 0 to 12 rows each."""
    rows = put_and_taken(seed, many * 13, kinds, most_weight)
    return [rows[13 * place:13 * place + (place * 7 + 3) % 13] for place in range(many)]


def shelf_of(room, reach, span, pieces):
    shelf = Shelf(room, reach, span)
    for rows in pieces:
        shelf.lay(keepsake_of(room, reach, span, rows))
    return shelf


def of_block(keepsakes, level, at):
    if level == 0:
        return keepsakes[at]
    half = 2 ** (level - 1)
    return poured(of_block(keepsakes, level - 1, at), of_block(keepsakes, level - 1, at + half))


def of_run(keepsakes, first, last):
    blocks = [of_block(keepsakes, level, at) for level, at in cover_by_its_words(first, last)]
    told = blocks[0]
    for block in blocks[1:]:
        told = poured(told, block)
    return told


class CoverTest(unittest.TestCase):
    def check(self, first, last):
        told = cover(first, last)
        self.assertEqual(told, cover_by_its_words(first, last), (first, last))
        self.assertIs(type(told), list)
        self.assertTrue(all(type(block) is tuple for block in told))

    def test_by_hand(self):
        self.assertEqual(cover(0, 1), [(0, 0)])
        self.assertEqual(cover(1, 2), [(0, 1)])
        self.assertEqual(cover(0, 8), [(3, 0)])
        self.assertEqual(cover(0, 7), [(2, 0), (1, 4), (0, 6)])
        self.assertEqual(cover(3, 11), [(0, 3), (2, 4), (1, 8), (0, 10)])
        self.assertEqual(cover(4, 6), [(1, 4)])
        self.assertEqual(cover(6, 12), [(1, 6), (2, 8)])
        self.assertEqual(cover(2, 4), [(1, 2)])

    def test_all_small_ones(self):
        for last in range(1, 75):
            for first in range(last):
                self.check(first, last)

    def test_multiples_of_great_powers_of_two(self):
        for power in (10, 31, 32, 33, 52, 53, 54, 57):
            size = 2 ** power
            for first in range(6):
                for last in range(first + 1, 8):
                    self.check(first * size, last * size)
                    self.check(first * size, last * size - 1)
                    self.check(first * size + 1, last * size)
                    self.check(first * size + 1, last * size + 1)

    def test_near_two_to_the_sixtieth(self):
        end = 2 ** 60
        for first in (0, 1, 2 ** 59 - 1, 2 ** 59, 2 ** 59 + 1, end - 64, end - 5, end - 4, end - 3):
            for last in (end - 2, end - 1):
                self.check(first, last)
        self.assertEqual(cover(end - 2, end - 1), [(0, end - 2)])
        self.assertEqual(len(cover(0, end - 1)), 60)
        self.assertEqual(len(cover(1, end - 1)), 118)
        self.assertEqual(cover(2 ** 59, 2 ** 59 + 2 ** 58), [(58, 2 ** 59)])

    def test_each_call_tells_a_new_list(self):
        told = cover(3, 11)
        told.clear()
        self.check(3, 11)


class LayTest(unittest.TestCase):
    def test_the_fields_at_first(self):
        for shape in ((2, 1, 1), (64, 10 ** 9, 10 ** 9), (4, 7, 11)):
            shelf = Shelf(*shape)
            self.assertEqual((shelf.room, shelf.reach, shelf.span, shelf.many), (*shape, 0))

    def test_many_behind_each(self):
        shelf = Shelf(2, 10, 5)
        keepsake = Keepsake(2, 10, 5)
        for many in range(1, 40):
            self.assertIsNone(shelf.lay(keepsake))
            self.assertEqual((shelf.room, shelf.reach, shelf.span, shelf.many), (2, 10, 5, many))
            self.assertIs(type(shelf.many), int)

    def test_what_is_done_later_changes_nothing_on_the_shelf(self):
        for room, reach, span, kinds, most_weight in SHAPES:
            shelf = Shelf(room, reach, span)
            keepsake = Keepsake(room, reach, span)
            texts = []
            for rows in pieces_of(room, 9, kinds, most_weight):
                go_through(keepsake, rows)
                shelf.lay(keepsake)
                texts.append(written(keepsake))
                go_through(keepsake, [("put", 0, 3), ("take", 1, 2), ("idle", 7), ("put", 77, 9)])
                told = [written(shelf.between(at, at + 1)) for at in range(shelf.many)]
                self.assertEqual(told, texts)

    def test_the_keepsake_laid_stays_as_it_is(self):
        keepsakes = [keepsake_of(4, 30, 6, rows) for rows in pieces_of(3, 8, 9, 9)]
        before = [fields_of(keepsake) for keepsake in keepsakes]
        shelf = Shelf(4, 30, 6)
        for keepsake in keepsakes:
            shelf.lay(keepsake)
        go_through(shelf.between(0, 8), [("put", 1, 1)])
        go_through(shelf.between(2, 3), [("put", 1, 1)])
        self.assertEqual([fields_of(keepsake) for keepsake in keepsakes], before)

    def test_one_may_be_laid_more_than_once(self):
        keepsake = keepsake_of(2, 10, 5, [("put", 1, 5), ("take", 2, 3)])
        shelf = Shelf(2, 10, 5)
        shelf.lay(keepsake)
        shelf.lay(keepsake)
        go_through(keepsake, [("put", 3, 1)])
        shelf.lay(keepsake)
        self.assertEqual(shelf.between(0, 2).net(1), (10, 10))
        self.assertEqual([shelf.between(at, 3).net(3) for at in (0, 1, 2)], [(1, 1)] * 3)

    def test_unlike_ones_are_refused(self):
        shape = (4, 10, 20)
        pieces = pieces_of(1, 3, 9, 9)
        for other in ((2, 10, 20), (64, 10, 20), (4, 11, 20), (4, 9, 20), (4, 10, 19), (4, 10, 10 ** 9)):
            for laid in range(4):
                for rows in ([], [("put", 1, 1), ("take", 2, 2)]):
                    shelf = shelf_of(*shape, pieces[:laid])
                    check_refused(self, Unlike, shelf.lay, keepsake_of(*other, rows))
                    self.assertEqual((shelf.room, shelf.reach, shelf.span, shelf.many), (*shape, laid))
                    check_refused(self, OutOfReach, shelf.between, 0, laid + 1)
                    shelf.lay(keepsake_of(*shape, rows))
                    expected = of_run([keepsake_of(*shape, each) for each in pieces[:laid] + [rows]], 0, laid + 1)
                    self.assertEqual(written(shelf.between(0, laid + 1)), written(expected))

    def test_two_shelves_are_apart(self):
        one, other = Shelf(2, 10, 5), Shelf(2, 10, 5)
        one.lay(keepsake_of(2, 10, 5, [("put", 1, 5)]))
        self.assertEqual((one.many, other.many), (1, 0))
        check_refused(self, OutOfReach, other.between, 0, 1)


class BetweenTest(unittest.TestCase):
    def test_each_run_against_the_blocks_of_the_cover(self):
        for room, reach, span, kinds, most_weight in SHAPES:
            pieces = pieces_of(room, 41, kinds, most_weight)
            shelf = shelf_of(room, reach, span, pieces)
            keepsakes = [keepsake_of(room, reach, span, rows) for rows in pieces]
            for last in range(1, 42):
                for first in range(last):
                    told = shelf.between(first, last)
                    self.assertIs(type(told), Keepsake)
                    self.assertEqual((told.room, told.reach, told.span), (room, reach, span))
                    self.assertEqual(written(told), written(of_run(keepsakes, first, last)), (first, last))

    def test_the_grouping_is_seen_in_the_text(self):
        # So that the test above would fail if pieces were poured one behind the other.
        keepsakes = [keepsake_of(2, 10, 5, rows) for rows in pieces_of(2, 41, 6, 3)]
        unlike = 0
        for first, last in ((0, 8), (1, 20), (16, 32), (3, 41)):
            told = keepsakes[first]
            for keepsake in keepsakes[first + 1:last]:
                told = poured(told, keepsake)
            unlike += written(told) != written(of_run(keepsakes, first, last))
        self.assertEqual(unlike, 4)

    def test_while_pieces_come(self):
        pieces = pieces_of(5, 20, 9, 9)
        shelf = Shelf(4, 30, 6)
        keepsakes = []
        for many, rows in enumerate(pieces, start=1):
            check_refused(self, OutOfReach, shelf.between, many - 1, many)
            check_refused(self, OutOfReach, shelf.between, 0, many)
            keepsakes.append(keepsake_of(4, 30, 6, rows))
            shelf.lay(keepsakes[-1])
            for first in range(many):
                self.assertEqual(written(shelf.between(first, many)), written(of_run(keepsakes, first, many)))

    def test_each_time_a_new_one(self):
        pieces = pieces_of(7, 16, 9, 9)
        shelf = shelf_of(2, 30, 6, pieces)
        for first, last in ((0, 1), (3, 4), (0, 2), (4, 8), (0, 16), (1, 15), (5, 8)):
            told = shelf.between(first, last)
            text = written(told)
            others = {(at, end): written(shelf.between(at, end)) for end in range(1, 17) for at in range(end)}
            go_through(told, [("put", 1, 3), ("take", 2, 5), ("idle", 2), ("put", 77, 3), ("put", 0, 4)])
            self.assertNotEqual(written(told), text)
            self.assertIsNot(shelf.between(first, last), told)
            for (at, end), other in others.items():
                self.assertEqual(written(shelf.between(at, end)), other)

    def test_a_told_one_stays_while_more_is_laid_and_asked(self):
        shelf = shelf_of(2, 30, 6, pieces_of(7, 7, 9, 9))
        told = [shelf.between(at, 7) for at in range(7)]
        texts = [written(keepsake) for keepsake in told]
        for keepsake in told:
            shelf.lay(keepsake)
        go_through(shelf.between(0, 14), [("put", 3, 3)])
        self.assertEqual([written(keepsake) for keepsake in told], texts)
        self.assertEqual(written(shelf.between(9, 10)), texts[2])

    def test_what_is_not_there_is_refused(self):
        for many in (0, 1, 2, 5, 8):
            shelf = shelf_of(2, 30, 6, pieces_of(7, many, 9, 9))
            runs = [(0, 0), (many, many), (1, 1), (-1, many), (-1, 0), (-2, -1), (-1, 1), (0, many + 1), (2, 1), (3, 0)]
            runs += [(many, many + 1), (many - 1, many + 1), (many + 1, many), (0, 10 ** 30), (10 ** 30, 10 ** 31)]
            for first, last in runs:
                check_refused(self, OutOfReach, shelf.between, first, last)
            self.assertEqual(shelf.many, many)
            if many:
                shelf.between(0, many)
                shelf.between(many - 1, many)

    def test_keepsakes_that_were_read(self):
        texts = (
            "keep 2 10 5\ncame 5 1 1 1\nwent 3 1\nup 9 0 0 0 3 3 / 3 / / / 3\ndown 4 4 0 0 1 1 / / / 1\n"
            "window 12 1 3 2 4 4 4\nseen 3 60\nsums -1 0 0 7",
            "keep 2 10 5\ncame 0 0\nwent 0 0\nup 0 0 0 0\ndown 0 0 0 0\nwindow 0\nseen 9 2\nsums 0 0 0 0",
        )
        shelf = Shelf(2, 10, 5)
        for text in texts * 3:
            shelf.lay(read_keepsake(text))
        self.assertEqual([written(shelf.between(at, at + 1)) for at in range(6)], list(texts * 3))
        keepsakes = [read_keepsake(text) for text in texts * 3]
        self.assertEqual(written(shelf.between(1, 6)), written(of_run(keepsakes, 1, 6)))

    def test_a_thousand_pieces(self):
        shelf = Shelf(4, 10 ** 9, 2000)
        for thing in range(1000):
            shelf.lay(keepsake_of(4, 10 ** 9, 2000, [("put", thing, 1)]))
        self.assertEqual(shelf.many, 1000)
        for first, last in ((0, 1000), (1, 999), (511, 513), (999, 1000)):
            told = shelf.between(first, last)
            self.assertEqual((told.up.total, told.seen.arrivals, told.window.clock), (last - first,) * 3)
            self.assertEqual((told.up.least, told.up.most), (first, last - 1))
            self.assertEqual(told.balance.sums[1], sum(range(first, last)))
        check_refused(self, OutOfReach, shelf.between, 0, 1001)


if __name__ == "__main__":
    unittest.main()
