import unittest

from sketchbounds.keepsake import Keepsake, poured
from sketchbounds.marks import unspread
from sketchbounds.notereader import read_keepsake
from sketchbounds.notes import written
from streams import fields_of, go_through, keepsake_of, put_and_taken
from test_notes import BARE, ROWS, WITH_ROWS

SHAPES = ((2, 10, 5, 6, 3), (2, 1, 1, 9, 10 ** 12), (4, 100, 10 ** 9, 20, 10 ** 12), (64, 10 ** 9, 3, 150, 9))
NINES = "9" * 60


def with_lines(changes, text=BARE):
    lines = text.split("\n")
    for line, words in changes.items():
        lines[line - 1] = words
    return "\n".join(lines)


class ReadAgainTest(unittest.TestCase):
    def check(self, keepsake):
        text = written(keepsake)
        read = read_keepsake(text)
        self.assertIs(type(read), Keepsake)
        self.assertEqual(fields_of(read), fields_of(keepsake))
        self.assertEqual(written(read), text)
        return read

    def test_without_rows(self):
        for room, reach, span in ((2, 1, 1), (64, 10 ** 9, 10 ** 9), (6, 7, 8)):
            self.check(Keepsake(room, reach, span))

    def test_by_hand(self):
        read = read_keepsake(WITH_ROWS)
        self.assertEqual(fields_of(read), fields_of(keepsake_of(2, 10, 5, ROWS)))
        self.assertEqual((read.room, read.reach, read.span), (2, 10, 5))
        self.assertEqual((read.came.room, read.came.total, read.came.lost, read.came.counts), (2, 9, 2, {7: 3}))
        self.assertEqual((read.up.over, read.up.turns, read.up.least, read.up.most), (1, 1, 1, 9))
        self.assertEqual(read.down.rungs, [[], [3]])
        self.assertEqual((read.window.reach, read.window.clock, read.window.boxes[0]), (10, 7, (1, 1, 5)))
        self.assertIs(type(read.window.boxes[0]), tuple)
        self.assertEqual((read.seen.arrivals, read.seen.level, read.seen.kept), (4, 1, [8]))
        self.assertEqual((read.balance.span, read.balance.sums), (5, [-1, -5, -17, -53]))

    def test_streams(self):
        for room, reach, span, kinds, most_weight in SHAPES:
            keepsake = Keepsake(room, reach, span)
            for row in put_and_taken(room, 150, kinds, most_weight):
                go_through(keepsake, [row])
                self.check(keepsake)

    def test_poured_ones(self):
        for room, reach, span, kinds, most_weight in SHAPES:
            one = keepsake_of(room, reach, span, put_and_taken(1, 70, kinds, most_weight))
            other = keepsake_of(room, reach, span, put_and_taken(2, 70, kinds, most_weight))
            for both in (poured(one, other), poured(other, one), poured(one, one)):
                self.check(both)
                self.check(poured(self.check(both), self.check(one)))

    def test_the_one_read_goes_on_like_the_one_written(self):
        for room, reach, span, kinds, most_weight in SHAPES:
            rows = put_and_taken(room + 3, 160, kinds, most_weight)
            keepsake = keepsake_of(room, reach, span, rows[:80])
            read = read_keepsake(written(keepsake))
            for row in rows[80:]:
                go_through(keepsake, [row])
                go_through(read, [row])
                self.assertEqual(written(read), written(keepsake))
            self.assertEqual(read.net(rows[0][1]), keepsake.net(rows[0][1]))
            self.assertEqual(read.last(reach), keepsake.last(reach))
            self.assertEqual(read.by_rank(1), keepsake.by_rank(1))

    def test_numbers_of_60_figures(self):
        keepsake = keepsake_of(2, 10, 5, ROWS)
        longest = 0
        while longest < 60:
            self.check(keepsake)
            keepsake = poured(keepsake, keepsake)
            longest = max(len(word.lstrip("-")) for word in written(keepsake).split())
        self.assertEqual(longest, 60)
        self.check(keepsake)

    def test_each_call_tells_a_new_one(self):
        one, other = read_keepsake(WITH_ROWS), read_keepsake(WITH_ROWS)
        go_through(one, put_and_taken(1, 30, 9, 9))
        self.assertEqual(written(other), WITH_ROWS)


class SoundTest(unittest.TestCase):
    """Texts that are sound, some of them such as no rows bring about."""

    def check(self, changes, text=BARE):
        whole = with_lines(changes, text)
        read = read_keepsake(whole)
        self.assertEqual(written(read), whole)
        return read

    def test_lines_that_don_t_go_together(self):
        bare, full = BARE.split("\n"), WITH_ROWS.split("\n")
        for line in range(2, 9):
            self.check({line: full[line - 1]})
            self.check({line: bare[line - 1]}, WITH_ROWS)

    def test_keep(self):
        for words in ("keep 2 1 1", "keep 64 1000000000 1000000000", "keep 4 1000000000 1", "keep 62 1 1000000000"):
            self.check({1: words})

    def test_came_and_went(self):
        cases = (
            "5 0", "3 1", "4 1 7 1", "5 1 1 1 2 1", "1 0 1152921504606846975 1", "9 0 0 9", "9 0 0 4 1 5",
            NINES + " 0", NINES + " 0 3 " + NINES, NINES + " " + "3" * 60,
        )
        for words in cases:
            self.check({2: "came " + words})
            self.check({3: "went " + words})
        self.check({1: "keep 4 10 5", 2: "came 5 1", 3: "went 9 1 1 1 2 1 3 1 4 1"})

    def test_up_and_down(self):
        cases = (
            "1 0 0 0 5 5 / 5", "1 0 0 7 0 9 / 5", "2 0 0 0 0 0 / 0 0", "2 0 0 0 5 5 / / 5", "2 1 0 0 5 5 / / 5",
            "2 0 1 0 5 5 / / 5", "1 0 0 0 0 1152921504606846975 / 7",
            "1 0 0 0 1152921504606846975 1152921504606846975 / 1152921504606846975",
            "4 1 1 1 2 4 / 2 3 / 4", "3 1 0 1 2 9 / 9 / 2", "4 4 0 0 1 1 / / / 1", "4 0 4 0 1 1 / / / 1",
            "9 0 0 0 3 3 / 3 / / / 3", "1 0 0 " + NINES + " 5 5 / 5",
            f"{2 ** 199} 0 0 0 5 5" + " /" * 200 + " 5",
        )
        for words in cases:
            self.check({4: "up " + words})
            self.check({5: "down " + words})
        self.check({1: "keep 64 1 1", 4: "up 64 0 0 0 5 5 /" + " 5" * 64})
        self.check({1: "keep 4 1 1", 5: "down 4 1 1 9 5 5 / / / 5"})

    def test_window(self):
        cases = (
            "7", "1 1 1 1", "9 1 1 1", "10 1 1 1", "11 2 2 1", "9 1 1 1 2 2 1", "9 1 1 1 9 9 1", "9 1 2 2 3 3 4",
            "9 1 8 2 9 9 4", "9 1 1 1 2 2 1 3 3 3", "12 1 3 2 4 4 4", "9 3 3 " + NINES, NINES,
            f"{NINES} {NINES} {NINES} 1",
        )
        for words in cases:
            self.check({6: "window " + words})
        self.check({1: "keep 4 1 1", 6: "window 7 7 7 1"})
        self.check({1: "keep 4 5 1", 6: "window 7 1 3 1 4 4 4"})
        self.check({1: "keep 2 1000000000 1", 6: "window 1000000000 1 1 1"})

    def test_seen(self):
        cases = (
            "7 0", "1 0 1", "2 0 0 1", "2 0 5 1152921504606846975", "9 0 5", "3 1", "3 60", "3 60 0", "4 1 2 4",
            f"3 59 0 {unspread(2 ** 59)}", f"3 33 {unspread(2 ** 33)}", NINES + " 2",
        )
        for words in cases:
            self.check({7: "seen " + words})
        self.check({1: "keep 4 1 1", 7: "seen 5 1 2 4 6 8"})
        self.check({1: "keep 4 1 1", 7: "seen 4 0 1 2 3 4"})

    def test_sums(self):
        for words in ("1 0 0 0", "-1 -2 3 -10", f"{NINES} -{NINES} 0 1", "0 0 0 -1", "10 -10 100 -100"):
            self.check({8: "sums " + words})

    def test_they_go_on(self):
        read = self.check({4: "up 9 0 0 0 3 3 / 3 / / / 3", 6: "window 12 1 3 2 4 4 4", 7: "seen 3 60"})
        go_through(read, [("put", 5, 3), ("put", 0, 4)])
        self.assertEqual(read.up.rungs, [[3, 5], [5], [0], [3]])
        self.assertEqual(read.window.boxes, [(13, 13, 3), (14, 14, 4)])
        self.assertEqual((read.seen.arrivals, read.seen.level, read.seen.kept), (5, 60, [0]))


if __name__ == "__main__":
    unittest.main()
