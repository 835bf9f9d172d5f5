import unittest

from sketchbounds.errors import BadText
from sketchbounds.marks import MOST, unspread
from sketchbounds.notereader import read_keepsake
from sketchbounds.notes import written
from streams import check_refused
from test_notereader import with_lines
from test_notes import BARE, WITH_ROWS

# The lines of WITH_ROWS are sound for this one.
KEEP = "keep 2 10 5"
NO_NUMBERS = (
    "01", "00", "007", "1" * 61, "0" * 61, "-0", "--1", "+1", "-", "1-", "1.0", "1e5", "0x1", "1_0", "one", "\u0663",
    "\u00b2", "1\t", "\t1", "1\r", "\u00a01", "1,", "'1'", "None", "True", "/1", "1/",
)


class BadTest(unittest.TestCase):
    def bad(self, text, line):
        with self.subTest(text=text):
            refusal = check_refused(self, BadText, read_keepsake, text)
            self.assertEqual(refusal.line, line)
            self.assertIs(type(refusal.line), int)

    def bad_line(self, line, words, keep=KEEP):
        self.bad(with_lines({1: keep, line: words}), line)
        if keep == KEEP:
            self.bad(with_lines({line: words}, WITH_ROWS), line)

    def good_line(self, line, words, keep=KEEP):
        text = with_lines({1: keep, line: words})
        with self.subTest(text=text):
            self.assertEqual(written(read_keepsake(text)), text)


class LinesTest(BadTest):
    def test_an_empty_text(self):
        self.bad("", 1)
        self.bad("\n", 1)
        self.bad(" ", 1)
        self.bad("\n" * 7, 1)

    def test_fewer_lines(self):
        for text in (BARE, WITH_ROWS):
            lines = text.split("\n")
            for many in range(8):
                self.bad("\n".join(lines[:many]), many + 1)
                self.bad("\n".join(lines[:many]) + "\n", many + 1)

    def test_more_lines(self):
        for text in (BARE, WITH_ROWS):
            for more in ("\n", "\n\n", "\nsums 0 0 0 0", "\n" + text, "\n ", "\nkeep"):
                self.bad(text + more, 9)

    def test_a_line_at_fault_goes_first(self):
        self.bad(with_lines({3: "went 0"}) + "\nmore", 3)
        self.bad(with_lines({8: "sums"}) + "\n", 8)
        self.bad("\n".join(with_lines({2: "came 0"}).split("\n")[:4]), 2)
        self.bad("\n".join(with_lines({4: "up 0"}).split("\n")[:4]), 4)
        self.bad("keep 3 1 1", 1)

    def test_the_first_of_several(self):
        for first in range(1, 8):
            for second in range(first + 1, 9):
                self.bad(with_lines({first: "no", second: "no"}), first)

    def test_lines_ahead(self):
        self.bad("\n" + BARE, 1)
        self.bad(BARE.replace("\n", "\n\n", 1), 2)

    def test_other_line_ends(self):
        self.bad(BARE.replace("\n", "\r\n"), 1)
        self.bad(BARE.replace("\n", "\r"), 1)
        self.bad(BARE.replace("\nwent", "\r\nwent"), 2)
        self.bad(BARE.replace("\nseen", "\u2028seen"), 6)


class WordsTest(BadTest):
    def test_blanks(self):
        for text in (BARE, WITH_ROWS):
            for line, words in enumerate(text.split("\n"), start=1):
                self.bad(with_lines({line: " " + words}, text), line)
                self.bad(with_lines({line: words + " "}, text), line)
                self.bad(with_lines({line: words.replace(" ", "  ", 1)}, text), line)
                self.bad(with_lines({line: "  ".join(words.rsplit(" ", 1))}, text), line)
                self.bad(with_lines({line: words.replace(" ", "\t")}, text), line)
                self.bad(with_lines({line: words.replace(" ", "")}, text), line)
                self.bad(with_lines({line: words.replace(" ", "\u00a0", 1)}, text), line)

    def test_names(self):
        names = [words.split(" ")[0] for words in BARE.split("\n")]
        for line, words in enumerate(BARE.split("\n"), start=1):
            name, numbers = words.split(" ", 1)
            for other in names + [name.upper(), name.title(), name + "s", name[:-1], "", "/", "0"]:
                if other != name:
                    self.bad(with_lines({line: other + " " + numbers}), line)
            self.bad(with_lines({line: numbers}), line)
            self.bad(with_lines({line: name}), line)
            self.bad(with_lines({line: ""}), line)
            self.bad(with_lines({line: name + " " + words}), line)

    def test_lines_in_another_order(self):
        lines = BARE.split("\n")
        for line in range(1, 8):
            turned = lines[:line - 1] + [lines[line], lines[line - 1]] + lines[line + 1:]
            self.bad("\n".join(turned), line)

    def test_too_few_and_too_many_words(self):
        for line, words in enumerate(BARE.split("\n"), start=1):
            self.bad(with_lines({line: words.rsplit(" ", 1)[0]}), line)
            self.bad(with_lines({line: words + " 1"}), line)

    def test_each_number_must_be_one(self):
        for line, words in enumerate(WITH_ROWS.split("\n"), start=1):
            parts = words.split(" ")
            for place in range(1, len(parts)):
                for wrong in NO_NUMBERS + ("",):
                    changed = parts[:place] + [wrong] + parts[place + 1:]
                    self.bad(with_lines({line: " ".join(changed)}, WITH_ROWS), line)
                if line != 8:
                    changed = parts[:place] + ["-" + parts[place]] + parts[place + 1:]
                    self.bad(with_lines({line: " ".join(changed)}, WITH_ROWS), line)

    def test_strokes_where_none_stands(self):
        for line in (1, 2, 3, 6, 7, 8):
            words = WITH_ROWS.split("\n")[line - 1]
            self.bad(with_lines({line: words + " /"}, WITH_ROWS), line)
            self.bad(with_lines({line: words.replace(" ", " / ", 1)}, WITH_ROWS), line)

    def test_numbers_of_61_figures(self):
        nines = "9" * 60
        self.good_line(2, f"came {nines} 0")
        self.bad_line(2, f"came {nines}9 0")
        self.good_line(6, f"window {nines}")
        self.bad_line(6, f"window {nines}9")
        self.good_line(8, f"sums {nines} -{nines} 0 0")
        self.bad_line(8, f"sums {nines}9 0 0 0")
        self.bad_line(8, f"sums 0 0 0 -{nines}9")
        self.bad_line(8, "sums -01 0 0 0")


class KeepTest(BadTest):
    def test_room(self):
        for room in (2, 4, 62, 64):
            self.good_line(1, f"keep {room} 10 5", keep=f"keep {room} 10 5")
        for room in (0, 1, 3, 5, 63, 65, 66, 10 ** 30):
            self.bad(with_lines({1: f"keep {room} 10 5"}), 1)

    def test_reach_and_span(self):
        for number in (1, 2, 10 ** 9 - 1, 10 ** 9):
            self.assertEqual(read_keepsake(with_lines({1: f"keep 2 {number} 5"})).reach, number)
            self.assertEqual(read_keepsake(with_lines({1: f"keep 2 10 {number}"})).span, number)
        for number in (0, 10 ** 9 + 1, 10 ** 30):
            self.bad(with_lines({1: f"keep 2 {number} 5"}), 1)
            self.bad(with_lines({1: f"keep 2 10 {number}"}), 1)


class CountsTest(BadTest):
    def both(self, words, good, keep=KEEP):
        for line, name in ((2, "came"), (3, "went")):
            if good:
                self.good_line(line, name + " " + words, keep)
            else:
                self.bad_line(line, name + " " + words, keep)

    def test_words(self):
        for words in ("5", "9 0 1", "9 0 1 2 3"):
            self.both(words, False)

    def test_things_rise(self):
        self.both("9 0 1 1 2 1", True)
        for words in ("9 0 2 1 1 1", "9 0 2 1 2 1", "9 0 2 1 2 2"):
            self.both(words, False)

    def test_things_are_below_most(self):
        self.both(f"9 0 {MOST - 1} 1", True)
        self.both(f"9 0 {MOST} 1", False)
        self.both(f"9 0 1 1 {MOST} 1", False)

    def test_counts_are_1_or_more(self):
        self.both("9 0 1 1", True)
        self.both("9 0 1 0", False)
        self.both("9 0 1 1 2 0", False)

    def test_at_most_room_things(self):
        self.both("9 0 1 1 2 1", True)
        self.both("9 0 1 1 2 1 3 1", False)
        self.both("9 0 1 1 2 1 3 1 4 1", True, "keep 4 10 5")
        self.both("9 0 1 1 2 1 3 1 4 1 5 1", False, "keep 4 10 5")

    def test_the_sum_is_at_most_total(self):
        for good, bad in (("5 0 1 5", "5 0 1 6"), ("5 0 1 2 2 3", "5 0 1 3 2 3"), ("3 1", "2 1"), ("4 1 7 1", "3 1 7 1"),
                          ("6 2", "5 2"), ("0 0", "0 1"), ("1 0 1 1", "0 0 1 1")):
            self.both(good, True)
            self.both(bad, False)
        self.both("65 1", True, "keep 64 10 5")
        self.both("64 1", False, "keep 64 10 5")


class RanksTest(BadTest):
    def both(self, words, good, keep=KEEP):
        for line, name in ((4, "up"), (5, "down")):
            if good:
                self.good_line(line, name + " " + words, keep)
            else:
                self.bad_line(line, name + " " + words, keep)

    def test_without_rows_all_is_0(self):
        self.both("0 0 0 0", True)
        for words in ("0 1 0 0", "0 0 1 0", "0 0 0 1", "0 0 0 0 0 0", "0 0 0 0 /", "0 0 0 0 5 5 / 5", "0 0 0 0 / 5"):
            self.both(words, False)

    def test_words(self):
        self.both("1 0 0 0 5 5 / 5", True)
        for words in ("1 0 0 0", "1 0 0 0 / 5", "1 0 0 0 5 / 5", "1 0 0 0 5 5 5 / 5", "1 0 0 0 5 5", "1 0 0 0 5 5 5",
                      "1 0 0 5 5 / 5", "1 0 0 / 5", "/ 5", "1 0 0 0 5 5 // 5", "1 0 0 0 5 5 /5", "1 0 0 0 5 5 - 5"):
            self.both(words, False)

    def test_least_and_greatest(self):
        self.both("2 0 0 0 3 7 / 3 7", True)
        self.both("2 0 0 0 4 7 / 3 7", False)
        self.both("2 0 0 0 3 6 / 3 7", False)
        self.both("3 0 0 0 3 7 / 7 / 3", True)
        self.both("3 0 0 0 4 7 / 7 / 3", False)
        self.both("3 0 0 0 3 6 / 3 / 7", False)
        self.both("1 0 0 0 9 3 / 5", False)
        self.both("1 0 0 0 6 4 / 5", False)
        self.both(f"1 0 0 0 5 {MOST - 1} / 5", True)
        self.both(f"1 0 0 0 5 {MOST} / 5", False)
        self.both(f"1 0 0 0 {MOST} {MOST} / {MOST}", False)

    def test_lists_are_sorted(self):
        self.both("2 0 0 0 1 9 / 4 4", True)
        self.both("2 0 0 0 1 9 / 5 4", False)
        self.both("6 0 0 0 1 9 / 4 5 / 5 4", False)
        self.both("4 0 0 0 1 9 / 1 3 2 4", False, "keep 4 1 1")

    def test_lists_of_at_most_room(self):
        self.both("2 0 0 0 1 9 / 4 4", True)
        self.both("3 0 0 0 1 9 / 4 4 4", False)
        self.both("6 0 0 0 1 9 / / 4 4 4", False)
        self.both("8 0 0 0 1 9 / / 4 4 4 4", True, "keep 4 1 1")
        self.both("10 0 0 0 1 9 / / 4 4 4 4 4", False, "keep 4 1 1")

    def test_the_last_list_is_not_empty(self):
        self.both("1 0 0 0 1 9 / 4", True)
        self.both("1 0 0 0 1 9 / 4 /", False)
        self.both("1 0 0 0 1 9 /", False)
        self.both("4 0 0 0 1 9 / / / 4", True)
        self.both("4 0 0 0 1 9 / / / 4 /", False)

    def test_the_lists_stand_for_total(self):
        for total, good in ((12, False), (13, True), (14, False), (6, False), (26, False)):
            self.both(f"{total} 0 0 0 1 9 / 4 / 1 9 / / 5", good)
        for total, good in ((1, False), (2, True), (3, False)):
            self.both(f"{total} 0 0 0 1 9 / 4 5", good)

    def test_very_many_lists(self):
        self.both("9 0 0 0 1 9" + " /" * 20000 + " 5", False)
        self.both(f"{2 ** 199} 0 0 0 1 9" + " /" * 200 + " 5", True)
        self.both(f"{2 ** 199} 0 0 0 1 9" + " /" * 201 + " 5", False)

    def test_over_and_under_are_bound(self):
        for over, under, good in ((2, 0, True), (0, 2, True), (1, 1, True), (3, 0, False), (0, 3, False), (2, 1, False)):
            self.both(f"4 {over} {under} 7 1 9 / 2 3 / 4", good)
            self.both(f"5 {over} {under} 7 1 9 / 2 / 3 4", good)
        for over, under, good in ((4, 0, True), (2, 2, True), (5, 0, False), (2, 3, False)):
            self.both(f"4 {over} {under} 0 1 9 / / / 4", good)
        self.both("1 1 0 1 5 5 / 5", False)
        self.both("1 0 1 1 5 5 / 5", False)
        self.both("1 0 0 1 5 5 / 5", True)
        self.both("4 1 1 0 1 9 / / / 4", True, "keep 4 1 1")
        self.both("4 2 1 0 1 9 / / / 4", False, "keep 4 1 1")


class BoxesTest(BadTest):
    def check(self, words, good, keep=KEEP):
        if good:
            self.good_line(6, "window " + words, keep)
        else:
            self.bad_line(6, "window " + words, keep)

    def test_words(self):
        self.check("7", True)
        self.check("7 7 7 7", True)
        for words in ("7 7", "7 7 7", "7 7 7 7 7"):
            self.check(words, False)

    def test_first_and_last(self):
        self.check("7 1 1 5", True)
        self.check("7 0 0 5", False)
        self.check("7 0 1 1 2 2 9", False)
        self.check("7 1 3 1 4 4 9", True)
        self.check("7 3 1 1 4 4 9", False)
        self.check("7 3 2 1 4 4 9", False)

    def test_sums_are_1_or_more(self):
        self.check("7 1 1 1", True)
        self.check("7 1 1 0", False)
        self.check("7 1 1 1 2 2 0", False)
        self.check("7 1 1 0 2 2 1", False)

    def test_each_next_one_is_behind_the_one_ahead(self):
        self.check("7 2 4 1 5 5 9", True)
        self.check("7 2 4 1 4 4 9", False)
        self.check("7 2 4 1 3 3 9", False)
        self.check("7 5 5 1 2 2 1", False)
        self.check("7 5 5 1 5 5 1", False)

    def test_all_last_are_at_most_clock(self):
        self.check("5 5 5 1", True)
        self.check("4 5 5 1", False)
        self.check("4 4 4 1 5 5 1", False)
        self.check("0 1 1 1", False)

    def test_all_last_are_within_reach(self):
        self.check("14 5 5 1", True)
        self.check("15 5 5 1", False)
        self.check("14 3 5 1 6 6 9", True)
        self.check("15 3 5 1 6 6 9", False)
        self.check("5 5 5 1", True, "keep 2 1 5")
        self.check("6 5 5 1", False, "keep 2 1 5")
        self.check("1000000000 1 1 1", True, "keep 2 1000000000 5")
        self.check("1000000001 1 1 1", False, "keep 2 1000000000 5")

    def test_a_box_of_several_arrivals_weighs_little(self):
        self.check("9 1 2 2 3 3 4", True)
        self.check("9 1 2 2 3 3 3", False)
        self.check("9 1 2 2", False)
        self.check("9 1 1 5 2 3 1", False)
        self.check("9 1 2 3 3 3 3 4 4 3", True)
        self.check("9 1 2 3 3 3 3 4 4 2", False)
        self.check("9 1 2 1 3 3 4", True, "keep 4 10 5")
        self.check("9 1 2 1 3 3 3", False, "keep 4 10 5")

    def test_two_neighbours_weigh_more(self):
        self.check("9 1 1 1 2 2 1 3 3 3", True)
        self.check("9 1 1 1 2 2 1 3 3 4", False)
        self.check("9 1 1 1 2 2 2 3 3 1 4 4 4", True)
        self.check("9 1 1 1 2 2 2 3 3 1 4 4 5", False)
        self.check("9 1 1 9 2 2 1 3 3 1 4 4 3", True)
        self.check("9 1 1 9 2 2 1 3 3 1 4 4 4", False)
        self.check("9 1 1 1 2 2 1 3 3 7", True, "keep 4 10 5")
        self.check("9 1 1 1 2 2 1 3 3 8", False, "keep 4 10 5")


class SeenTest(BadTest):
    def check(self, words, good, keep=KEEP):
        if good:
            self.good_line(7, "seen " + words, keep)
        else:
            self.bad_line(7, "seen " + words, keep)

    def test_words(self):
        self.check("3 0", True)
        self.check("3", False)

    def test_level(self):
        self.check("3 60", True)
        self.check("3 60 0", True)
        self.check("3 61", False)
        self.check("3 1000", False)

    def test_things_rise(self):
        self.check("5 0 3 4", True)
        self.check("5 0 4 3", False)
        self.check("5 0 4 4", False)

    def test_things_are_below_most(self):
        self.check(f"5 0 {MOST - 1}", True)
        self.check(f"5 0 {MOST}", False)
        self.check(f"5 1 {MOST}", False)

    def test_at_most_room_things(self):
        self.check("5 0 3 4", True)
        self.check("5 0 3 4 5", False)
        self.check("5 0 3 4 5 6", True, "keep 4 10 5")
        self.check("9 0 3 4 5 6 7", False, "keep 4 10 5")

    def test_marks_of_level_or_more(self):
        self.check("5 1 2 4", True)
        self.check("5 1 2 3", False)
        self.check("5 2 4", True)
        self.check("5 2 2", False)
        for level in (1, 20, 59):
            self.check(f"5 {level} {unspread(2 ** level)}", True)
            self.check(f"5 {level + 1} {unspread(2 ** level)}", False)

    def test_arrivals(self):
        self.check("0 0", True)
        self.check("1 0 3", True)
        self.check("0 0 3", False)
        self.check("2 0 3 4", True)
        self.check("1 0 3 4", False)
        self.check("3 1", True)
        self.check("2 1", False)
        self.check("3 1 2 4", True)
        self.check("2 1 2 4", False)
        self.check("65 1", True, "keep 64 10 5")
        self.check("64 1", False, "keep 64 10 5")


class SumsTest(BadTest):
    def test_four_numbers(self):
        self.good_line(8, "sums -1 2 -3 4")
        for words in ("sums", "sums 1", "sums 1 2 3", "sums 1 2 3 4 5"):
            self.bad_line(8, words)

    def test_signs(self):
        for words in ("-0 0 0 0", "0 0 0 -0", "0 - 0 0", "0 -- 0 0", "0 --1 0 0", "+1 0 0 0", "-01 0 0 0", "0 0 1- 0",
                      "- 1 0 0 0", "-00 0 0 0"):
            self.bad_line(8, "sums " + words)


if __name__ == "__main__":
    unittest.main()
