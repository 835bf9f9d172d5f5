"""Which texts answers and plainly read, and at which line they refuse the others."""

import unittest

from sketchbounds.answers import answers, plainly
from sketchbounds.errors import BadText
from streams import check_refused

KEEP = "keep 2 10 5"
NINES = "9" * 60
MOST = 2 ** 60
# One of each kind of line, all numbers at hand in their bounds.
LINES = (
    "put 3 4", "take 3 4", "idle 5", "cut", "ask net 3", "ask ranked 3", "ask often 1 2", "ask by 1", "ask last 1",
    "ask distinct", "ask off",
)
QUESTIONS = tuple(line for line in LINES if line.startswith("ask"))
# Signs that a text may not have, or that none of its words has.
STRANGE_SIGNS = "%\t\r\v\f\0\x1c\x1f\x7f\x85\xa0\u2003\u2028\u3000\u00e4\u0663\uff11-+._/,;:#~!'\"A"


class Reading(unittest.TestCase):
    def read(self, text):
        """The lines and words of the questions told, the same for both."""
        told = [(line, word) for line, word, answer in answers(text)]
        self.assertEqual([(line, word) for line, word, answer in plainly(text)], told)
        return told

    def refused(self, line, text):
        for call in (answers, plainly):
            refusal = check_refused(self, BadText, call, text)
            self.assertEqual(refusal.line, line, text)
            self.assertIs(type(refusal.line), int)

    def refused_line(self, words):
        """Refused wherever it stands behind the keep line."""
        self.refused(2, KEEP + "\n" + words)
        self.refused(2, KEEP + "\n" + words + "\nput 1 1\nput 1 0")
        self.refused(4, "\n" + KEEP + "\n\n" + words + "\n" + KEEP)
        self.refused(6, "\n".join([KEEP, "put 1 1", "cut", "ask off", " ", words, "ask off"]))

    def read_line(self, words):
        told = self.read("\n".join([KEEP, "put 1 1", "cut", words, "ask off"]))
        self.assertEqual(told[-1], (5, "off"))
        return told


class ReadTest(Reading):
    def test_each_kind_of_line(self):
        self.assertEqual(self.read(KEEP), [])
        for words in LINES:
            asked = [(2, words.split()[1])] if words in QUESTIONS else []
            self.assertEqual(self.read(KEEP + "\n" + words), asked)
        told = self.read("\n".join((KEEP,) + LINES + LINES))
        words = ["net", "ranked", "often", "by", "last", "distinct", "off"]
        self.assertEqual(told, list(zip([*range(6, 13), *range(17, 24)], words * 2)))

    def test_of_behind_each_question(self):
        for words in QUESTIONS:
            self.assertEqual(self.read(KEEP + "\n" + words + " of 0 1"), [(2, words.split()[1])])

    def test_blanks_ahead_behind_and_between(self):
        lines = (KEEP, "put 3 4", "cut") + QUESTIONS + tuple(words + " of 0 2" for words in QUESTIONS) + ("idle 7",)
        plain = "\n".join(lines)
        for spaced in (
            "\n".join(" " + words for words in lines), "\n".join(words + "   " for words in lines),
            plain.replace(" ", "    "), "\n".join("   " + words.replace(" ", "  ") + " " for words in lines),
        ):
            self.assertEqual(answers(spaced), answers(plain))
            self.assertEqual(plainly(spaced), plainly(plain))

    def test_empty_lines_are_passed_over_but_counted(self):
        for empty in ("", " ", "     "):
            text = "\n".join([empty, empty, KEEP, empty, "put 1 1", empty, "ask off", empty, "ask by 1", empty])
            self.assertEqual(self.read(text), [(7, "off"), (9, "by")])
        self.assertEqual(self.read(KEEP + "\n"), [])
        self.assertEqual(self.read("\n" * 500 + KEEP + "\nask off"), [(502, "off")])

    def test_numbers_of_60_figures_where_any_may_be(self):
        for words in ("ask by ", "ask last "):
            self.read_line(words + NINES)
            self.read_line(words + NINES + " of 0 1")
            self.read_line(words + "1" + "0" * 59)
        for words in QUESTIONS:
            for pieces in (f"{NINES} {NINES}", f"0 {NINES}", f"{NINES} 0", "0 0", "7 3", "1 1"):
                self.read_line(f"{words} of {pieces}")

    def test_zero_where_any_may_be(self):
        for words in ("ask by 0", "ask last 0", "ask by 0 of 0 0", "ask last 0 of 0 1"):
            self.read_line(words)

    def test_the_bounds_themselves(self):
        for words in (
            f"put {MOST - 1} {10 ** 12}", "put 0 1", f"take {MOST - 1} {10 ** 12}", "take 0 1", "idle 1",
            f"idle {10 ** 12}", "ask net 0", f"ask net {MOST - 1}", "ask ranked 0", f"ask ranked {MOST - 1}",
            "ask often 1 1", f"ask often {10 ** 6} {10 ** 6}", f"ask often 1 {10 ** 6}", "ask often 7 7",
        ):
            self.read_line(words)
        for words in ("keep 2 1 1", f"keep 64 {10 ** 9} {10 ** 9}", f"keep 62 1 {10 ** 9}", f"keep 4 {10 ** 9} 1"):
            self.assertEqual(self.read(words + "\nput 0 1\nask off"), [(3, "off")])

    def test_a_text_of_20000_signs(self):
        text = KEEP + "\nput 1 1" * 2000 + "\n" + " " * 3900 + "ask by 2000"
        self.assertEqual(self.read(text), [(2002, "by")])


class KeepLineTest(Reading):
    def test_no_words(self):
        for text in ("", " ", "\n", "\n\n\n", "   \n  \n", " \n"):
            self.refused(1, text)

    def test_another_line_stands_first(self):
        for words in LINES + ("hold 2 10 5", "Keep 2 10 5", "keeps 2 10 5", "ask keep 2 10 5", "2 10 5", "KEEP 2 10 5"):
            self.refused(1, words)
            self.refused(1, words + "\n" + KEEP)
            self.refused(3, "\n  \n" + words + "\n" + KEEP + "\nput 0 0")

    def test_a_second_one(self):
        self.refused(2, KEEP + "\n" + KEEP)
        self.refused(4, KEEP + "\n\nput 1 1\n" + KEEP + "\nput 1 0")
        self.refused(2, KEEP + "\nkeep 4 11 6")

    def test_too_few_or_too_many_words(self):
        for words in ("keep", "keep 2", "keep 2 10", "keep 2 10 5 5", "keep 2 10 5 of 0 1", "keep 2 10 5 put 1 1"):
            self.refused(1, words)
            self.refused(2, "\n" + words + "\nput 0 0")

    def test_out_of_bounds(self):
        for words in (
            "0 10 5", "1 10 5", "3 10 5", "63 10 5", "65 10 5", "66 10 5", "2 0 5", f"2 {10 ** 9 + 1} 5", "2 10 0",
            f"2 10 {10 ** 9 + 1}", f"{NINES} 10 5", f"2 {NINES} 5", f"2 10 {NINES}",
        ):
            self.refused(1, "keep " + words)
            self.refused(2, "\nkeep " + words + "\nask off\nput 0 0")

    def test_words_that_are_no_numbers(self):
        for word in ("x", "02", "-2", "+2", "2.", "2%", "2\t", "\uff12", "0" * 60, "1" * 61, "two"):
            for words in (f"keep {word} 10 5", f"keep 2 {word} 5", f"keep 2 10 {word}"):
                self.refused(1, words)


class OtherLinesTest(Reading):
    def test_words_of_another_kind(self):
        for words in (
            "hold 1 1", "Put 1 1", "PUT 1 1", "puts 1 1", "pu 1 1", "1 1", "put", "ask", "ask 1", "ask me", "ask put 1 1",
            "ask cut", "ask by_rank 1", "ask Net 1", "asks net 1", "net 1", "off", "of 0 1", "ask of 0 1", "ask keep 2 10 5",
            "ask ask net 1", "ask all_put", "by 1", "#", "put 1 1 # x", "cut cut", "0", "written", "ask idle 1",
        ):
            self.refused_line(words)

    def test_too_few_or_too_many_words(self):
        for words in LINES:
            parts = words.split()
            for many in range(1, len(parts)):
                self.refused_line(" ".join(parts[:many]))
            self.refused_line(words + " 1")
            self.refused_line(words + " 1 1")
            self.refused_line(words + " x")

    def test_of_behind_what_is_no_question(self):
        for words in set(LINES) - set(QUESTIONS):
            self.refused_line(words + " of 0 1")

    def test_of_without_its_two_numbers(self):
        for words in QUESTIONS:
            for behind in (
                "of", "of 0", "of 0 1 2", "of 0 1 of 0 1", "0 1", "OF 0 1", "off 0 1", "of x 1", "of 0 x", "of 00 1",
                "of 0 01", "of -1 1", "of 0 -1", "of 0 1" + "0" * 60, "of " + "1" * 61 + " 1", "to 0 1", "of 0,1",
            ):
                self.refused_line(words + " " + behind)

    def test_words_that_are_no_numbers(self):
        for word in ("x", "01", "00", "-1", "+1", "1.", "1.0", "1e3", "1_0", "0x1", "1%", "1" * 61, "0" * 60, "\uff11", "\u0661"):
            for words in (
                "put {} 1", "put 1 {}", "take {} 1", "take 1 {}", "idle {}", "ask net {}", "ask ranked {}", "ask often {} 9",
                "ask often 1 {}", "ask by {}", "ask last {}", "ask by {} of 0 1", "ask off of {} 1", "ask off of 0 {}",
            ):
                self.refused_line(words.format(word))

    def test_out_of_bounds_by_one(self):
        for words in (
            f"put {MOST} 1", "put 1 0", f"put 1 {10 ** 12 + 1}", f"take {MOST} 1", "take 1 0", f"take 1 {10 ** 12 + 1}",
            "idle 0", f"idle {10 ** 12 + 1}", f"ask net {MOST}", f"ask ranked {MOST}", "ask often 0 1", "ask often 0 0",
            "ask often 1 0", f"ask often {10 ** 6 + 1} {10 ** 6 + 1}", f"ask often 1 {10 ** 6 + 1}",
            f"ask often {10 ** 6 + 1} 1", f"put {NINES} 1", f"put 1 {NINES}", f"idle {NINES}", f"ask net {NINES}",
            f"ask often 1 {NINES}", f"ask net {MOST} of 0 1", f"ask ranked {MOST} of 9 9", "ask often 0 1 of 0 1",
        ):
            self.refused_line(words)

    def test_part_greater_than_whole(self):
        for words in ("ask often 2 1", f"ask often {10 ** 6} {10 ** 6 - 1}", "ask often 8 7", "ask often 2 1 of 0 1"):
            self.refused_line(words)

    def test_strange_signs(self):
        for sign in STRANGE_SIGNS:
            self.refused_line(sign)
            for words in ("put 1 1", "cut", "ask off", "ask by 1 of 0 1"):
                self.refused_line(sign + words)
                self.refused_line(words + sign)
                self.refused_line(words + " " + sign)
                self.refused_line(sign + " " + words)
                if " " in words:
                    self.refused_line(words.replace(" ", sign))
                    self.refused_line(words.replace(" ", " " + sign + " "))
            self.refused(1, sign + "\n" + KEEP)
            self.refused(1, KEEP + sign)

    def test_only_line_feeds_part_lines(self):
        for sign in "\r\v\f\x1c\x1d\x1e\x85\u2028\u2029":
            self.refused(1, KEEP + sign + "put 1 1")
            self.refused(2, KEEP + "\nput 1 1" + sign + "\nask off")
            self.refused(2, KEEP + "\nput 1 1" + sign + "ask off")

    def test_the_first_line_at_fault(self):
        faults = ("put 1 0", "hold", "ask net", "\t", KEEP)
        for one in faults:
            for other in faults:
                self.refused(3, "\n".join([KEEP, "cut", one, other]))
                self.refused(5, "\n".join([KEEP, "cut", "ask by 0", "ask off of 9 9", one, "ask off", other]))
        self.refused(1, "keep 3 10 5\nhold")

    def test_a_refusal_told_ahead_of_the_fault_doesn_t_go_first(self):
        self.refused(3, KEEP + "\nask off of 1 0\nhold")
        self.refused(3, KEEP + "\nask often 1 9\nidle 0")


if __name__ == "__main__":
    unittest.main()
