import unittest

from sketchbounds.keepsake import Keepsake, poured
from sketchbounds.notes import written
from streams import fields_of, keepsake_of, put_and_taken

BARE = "\n".join((
    "keep 2 10 5",
    "came 0 0",
    "went 0 0",
    "up 0 0 0 0",
    "down 0 0 0 0",
    "window 0",
    "seen 0 0",
    "sums 0 0 0 0",
))
ROWS = [
    ("put", 7, 5), ("put", 8, 2), ("put", 9, 1), ("put", 1, 1), ("take", 3, 2), ("idle", 2),
]
WITH_ROWS = "\n".join((
    "keep 2 10 5",
    "came 9 2 7 3",
    "went 2 0 3 2",
    "up 9 1 0 1 1 9 / 9 / 1 8 / 7",
    "down 2 0 0 0 3 3 / / 3",
    "window 7 1 1 5 2 2 2 3 3 1 4 4 1",
    "seen 4 1 8",
    "sums -1 -5 -17 -53",
))


class WrittenTest(unittest.TestCase):
    def test_without_rows(self):
        self.assertEqual(written(Keepsake(2, 10, 5)), BARE)
        self.assertEqual(written(Keepsake(64, 10 ** 9, 1)).split("\n")[0], "keep 64 1000000000 1")

    def test_with_rows_in_all_parts(self):
        self.assertEqual(written(keepsake_of(2, 10, 5, ROWS)), WITH_ROWS)

    def test_things_stand_in_rising_order(self):
        keepsake = keepsake_of(4, 10, 1, [("put", thing, 1) for thing in (9, 3, 10, 0)])
        lines = written(keepsake).split("\n")
        self.assertEqual(lines[1], "came 4 0 0 1 3 1 9 1 10 1")
        self.assertEqual(lines[3], "up 4 0 0 0 0 10 / 0 3 9 10")
        self.assertEqual(lines[6], "seen 4 0 0 3 9 10")
        keepsake = keepsake_of(4, 10, 1, [("take", thing, 3) for thing in (9, 3, 10)])
        lines = written(keepsake).split("\n")
        self.assertEqual(lines[2], "went 9 0 3 3 9 3 10 3")
        self.assertEqual(lines[4], "down 9 0 0 0 3 10 / 3 9 10 / 3 9 10")
        self.assertEqual(lines[6], "seen 0 0")

    def test_boxes_of_several_arrivals(self):
        keepsake = keepsake_of(2, 10, 1, [("put", 0, weight) for weight in (1, 1, 1, 100)])
        self.assertEqual(written(keepsake).split("\n")[5], "window 4 1 3 3 4 4 100")

    def test_over_under_and_turns(self):
        keepsake = keepsake_of(2, 10, 1, [("put", thing, 1) for thing in (5, 3, 9, 9, 1)] + [("put", 4, 3)])
        self.assertEqual(written(keepsake).split("\n")[3], "up 8 3 1 3 1 9 / 4 9 / 9 / 3")

    def test_sums_below_0(self):
        keepsake = keepsake_of(2, 10, 10 ** 9, [("take", 10 ** 9 - 1, 10 ** 12), ("put", 0, 3)])
        sums = [3 - 10 ** 12] + [-(10 ** 12) * (10 ** 9 - 1) ** j for j in (1, 2, 3)]
        self.assertEqual(written(keepsake).split("\n")[7], "sums " + " ".join(str(each) for each in sums))

    def test_numbers_of_any_size(self):
        keepsake = keepsake_of(2, 10, 5, [("take", 4, 1), ("put", 2, 10 ** 12)])
        for number in (10 ** 29, 10 ** 30 - 1, 10 ** 30, 10 ** 30 + 7, 10 ** 60, 10 ** 61 + 10 ** 30, 10 ** 4000 + 3):
            keepsake.balance.sums = [number, -number, 0, number - 1]
            line = " ".join(str(each) for each in keepsake.balance.sums)
            self.assertEqual(written(keepsake).split("\n")[7], "sums " + line)
        keepsake.balance.sums = [10 ** 9000, -10 ** 9000, 10 ** 9000 + 1, 0]
        great = "1" + 9000 * "0"
        self.assertEqual(written(keepsake).split("\n")[7], f"sums {great} -{great} {great[:-1]}1 0")

    def test_a_keepsake_that_was_poured_again_and_again(self):
        keepsake = keepsake_of(2, 10, 5, ROWS)
        for step in range(300):
            keepsake = poured(keepsake, keepsake)
        lines = written(keepsake).split("\n")
        self.assertEqual(lines[1].split(" ")[1], str(9 * 2 ** 300))
        self.assertEqual(lines[7], "sums " + " ".join(str(each * 2 ** 300) for each in (-1, -5, -17, -53)))

    def test_eight_lines_and_one_blank_between_words(self):
        for seed in range(5):
            text = written(keepsake_of(4, 30, 9, put_and_taken(seed, 80, 12, 10 ** 12)))
            lines = text.split("\n")
            names = [line.split(" ")[0] for line in lines]
            self.assertEqual(names, ["keep", "came", "went", "up", "down", "window", "seen", "sums"])
            for line in lines:
                self.assertRegex(line, r"\A[a-z]+( (-?[1-9][0-9]*|0|/))+\Z")

    def test_writing_changes_nothing(self):
        keepsake = keepsake_of(2, 10, 5, ROWS)
        before = fields_of(keepsake)
        text = written(keepsake)
        self.assertEqual(fields_of(keepsake), before)
        keepsake.put(1, 1)
        self.assertEqual(text, WITH_ROWS)


if __name__ == "__main__":
    unittest.main()
