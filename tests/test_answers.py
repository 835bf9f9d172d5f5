import copy
import unittest

from sketchbounds.answers import answers, plainly
from sketchbounds.keepsake import Keepsake, poured
from streams import go_through, keepsake_of, numbers_of, put_and_taken, true_answer

# room, reach, span, kinds of things, greatest weight
SHAPES = (
    (2, 10, 5, 6, 3), (2, 1, 1, 9, 10 ** 12), (4, 100, 10 ** 9, 20, 10 ** 12), (64, 10 ** 9, 3, 150, 9), (4, 30, 2, 3, 2),
    (6, 10 ** 9, 4, 40, 5),
)
REFUSALS = ("OutOfReach", "TooFine", "TooManyOff")
ASKED_AS = {"by": "by_rank"}


def small_things(rows, span):
    """The same rows, most of their things below a small span, so that not too many are off."""
    if span > 9:
        return rows
    return [row if row[0] == "idle" else (row[0], row[1] % (span + 1), row[2]) for row in rows]


def questions_of(state, shape, things):
    """Questions with numbers of all kinds: in reach, at its edges, out of it."""
    room, reach, span = shape[:3]
    thing = things[state % len(things)] if things else 3
    parts = ((1, room + 1), (1, room + 2), (1, 2), (1, 1), (2, 2 * room + 2), (2, 2 * room + 3), (1, 10 ** 6))
    part, whole = parts[(state >> 8) % len(parts)]
    k = (0, 1, 2, 7, (state >> 20) % 40 + 1, 10 ** 60 - 1)[(state >> 16) % 6]
    many = (0, 1, 2, 9, reach - 1, reach, reach + 1, 10 ** 60 - 1)[(state >> 28) % 8]
    return [
        ("net", thing), ("ranked", thing), ("often", part, whole), ("by", k), ("last", many), ("distinct",), ("off",),
    ]


def run_at(state, pieces):
    first = (state >> 5) % (pieces + 1)
    last = (first + 1, first + 1, first + 2, pieces, pieces, pieces + 1, first, 0)[(state >> 12) % 8]
    return (first, last)


def scripts(shape, seed, many):
    """A text's lines as tuples: rows, cuts, and questions with None or a run of pieces behind."""
    room, reach, span, kinds, most_weight = shape
    script, things, pieces = [], [], 1
    if span < 9:
        script += [("put", thing, 1) for thing in range(span)]
    rows = small_things(put_and_taken(seed, many, kinds, most_weight), span)
    for row, state in zip(rows, numbers_of(seed + 7, many)):
        script.append(row)
        if row[0] != "idle":
            things.append(row[1])
        if (state >> 30) % 6 == 0:
            script.append(("cut",))
            pieces += 1
        if (state >> 35) % 3 == 0:
            asked = questions_of(state, shape, things)[(state >> 22) % 7]
            script.append(("ask", *asked, None))
            script.append(("ask", *asked, run_at(state, pieces)))
    return script + [("ask", *asked, None) for asked in questions_of(seed, shape, things)]


def line_of(row):
    if row[0] != "ask":
        return " ".join(str(word) for word in row)
    behind = "" if row[-1] is None else " of {} {}".format(*row[-1])
    return " ".join(str(word) for word in row[:-1]) + behind


def text_of(shape, script):
    return "\n".join(["keep {} {} {}".format(*shape[:3])] + [line_of(row) for row in script])


def asked_rows(script):
    """For each question: its line, its words, and the rows of each piece asked about, None where there are none such."""
    pieces = [[]]
    for line, row in enumerate(script, start=2):
        if row[0] == "cut":
            pieces.append([])
        elif row[0] == "ask":
            first, last = (0, len(pieces)) if row[-1] is None else row[-1]
            there = 0 <= first < last <= len(pieces)
            yield line, row[1:-1], copy.deepcopy(pieces[first:last]) if there else None
        else:
            pieces[-1].append(row)


def true_told(shape, words, pieces):
    room, reach, span = shape[:3]
    if pieces is None:
        return "OutOfReach"
    if words[0] == "last" and not 1 <= words[1] <= reach:
        return "OutOfReach"
    if words[0] == "often" and words[1] * (room + 1) < words[2]:
        return "TooFine"
    rows = [row for piece in pieces for row in piece]
    numbers = (span,) if words[0] == "off" else words[1:]
    return true_answer(rows, ASKED_AS.get(words[0], words[0]), *numbers)


def told_by(keepsake, words):
    try:
        return getattr(keepsake, ASKED_AS.get(words[0], words[0]))(*words[1:])
    except ValueError as refusal:
        return type(refusal).__name__


def groupings(keepsakes):
    """The keepsakes poured in their order, in each grouping."""
    if len(keepsakes) == 1:
        return keepsakes
    return [
        poured(one, other) for cut in range(1, len(keepsakes))
        for one in groupings(keepsakes[:cut]) for other in groupings(keepsakes[cut:])
    ]


def all_scripts():
    for number, shape in enumerate(SHAPES):
        for seed in range(4):
            yield shape, scripts(shape, 100 * number + seed, 120)


class ByHandTest(unittest.TestCase):
    TEXT = "\n".join([
        "keep 2 10 5", "put 1 5", "put 2 3", "ask net 1", "cut", "take 1 4", "ask net 1 of 0 1", "ask net 1",
        "ask ranked 2 of 1 2", "ask distinct of 1 2", "ask distinct", "", "ask often 1 3", "ask often 1 4", "ask by 6",
        "ask by 9", "ask last 11", "ask last 2", "ask last 3 of 0 1", "ask off", "ask off of 2 3",
    ])

    def test_answers(self):
        self.assertEqual(answers(self.TEXT), [
            (4, "net", (5, 5)), (7, "net", (5, 5)), (8, "net", (1, 1)), (9, "ranked", (-4, -4)), (10, "distinct", (0, 0)),
            (11, "distinct", (2, 2)), (13, "often", [(1, 5, 5), (2, 3, 3)]), (14, "often", "TooFine"),
            (15, "by", (2, 6, 6)), (16, "by", "OutOfReach"), (17, "last", "OutOfReach"), (18, "last", (3, 3)),
            (19, "last", (8, 8)), (20, "off", "TooManyOff"), (21, "off", "OutOfReach"),
        ])

    def test_plainly(self):
        self.assertEqual(plainly(self.TEXT), [
            (4, "net", 5), (7, "net", 5), (8, "net", 1), (9, "ranked", -4), (10, "distinct", 0), (11, "distinct", 2),
            (13, "often", [1, 2]), (14, "often", "TooFine"), (15, "by", 2), (16, "by", "OutOfReach"),
            (17, "last", "OutOfReach"), (18, "last", 3), (19, "last", 8), (20, "off", "TooManyOff"),
            (21, "off", "OutOfReach"),
        ])

    def test_the_forms(self):
        for call in (answers, plainly):
            told = call(self.TEXT)
            self.assertIs(type(told), list)
            for each in told:
                self.assertEqual([type(part) for part in each[:2]], [int, str])
                self.assertIs(type(each), tuple)

    def test_no_questions(self):
        for text in ("keep 2 10 5", "keep 2 10 5\nput 1 1\ncut\nidle 5\ntake 1 1"):
            self.assertEqual((answers(text), plainly(text)), ([], []))

    def test_without_rows(self):
        questions = ["net 3", "ranked 3", "often 1 3", "often 1 4", "by 1", "last 10", "last 11", "distinct", "off"]
        for behind, cuts in (("", []), ("", ["cut"] * 3), (" of 0 1", []), (" of 1 4", ["cut"] * 3)):
            text = "\n".join(["keep 2 10 2"] + cuts + ["ask " + words + behind for words in questions])
            self.assertEqual([told for line, word, told in answers(text)], [
                (0, 0), (0, 0), [], "TooFine", "OutOfReach", (0, 0), "OutOfReach", (0, 0), [(0, -1), (1, -1)]])
            self.assertEqual([told for line, word, told in plainly(text)], [
                0, 0, [], "TooFine", "OutOfReach", 0, "OutOfReach", 0, [(0, -1), (1, -1)]])

    def test_each_call_tells_anew(self):
        for call in (answers, plainly):
            before = call(self.TEXT)
            told = call(self.TEXT)
            for line, word, answer in told:
                if type(answer) is list:
                    answer.clear()
            told.clear()
            self.assertEqual(call(self.TEXT), before)

    def test_no_told_answer_is_shared_with_another(self):
        text = "keep 2 10 2\nput 0 1\nask off\nask off\nask often 1 1\ntake 0 1\nask off\nask often 1 2\nask often 1 2"
        for call in (answers, plainly):
            told = [answer for line, word, answer in call(text)]
            expected = copy.deepcopy(told)
            for place, answer in enumerate(told):
                answer.append("more")
                expected[place].append("more")
                self.assertEqual(told, expected)


class PiecesTest(unittest.TestCase):
    def net_of_one(self, lines):
        """What is told of thing 1 by both, which here always agree."""
        text = "\n".join(["keep 64 10 5"] + lines)
        told = [answer for line, word, answer in plainly(text)]
        kept = [answer for line, word, answer in answers(text)]
        self.assertEqual(kept, [answer if answer in REFUSALS else (answer, answer) for answer in told])
        return told

    def test_which_pieces_are_asked(self):
        runs = [(first, last) for last in range(5) for first in range(last)]
        lines = ["put 1 1", "cut", "put 1 10", "cut", "cut", "put 1 100", "put 1 100"]
        told = self.net_of_one(lines + [f"ask net 1 of {first} {last}" for first, last in runs])
        self.assertEqual(told, [sum((1, 10, 0, 200)[first:last]) for first, last in runs])

    def test_the_one_that_goes_on(self):
        lines = ["ask net 1 of 0 1", "put 1 3", "ask net 1 of 0 1", "cut", "ask net 1 of 1 2", "put 1 5", "ask net 1 of 1 2"]
        lines += ["ask net 1 of 0 2", "put 1 7", "ask net 1 of 1 2", "ask net 1 of 0 2", "ask net 1 of 0 1", "cut"]
        lines += ["ask net 1 of 2 3", "ask net 1 of 1 2", "ask net 1 of 0 3", "ask net 1"]
        self.assertEqual(self.net_of_one(lines), [0, 3, 0, 5, 8, 12, 15, 3, 0, 12, 15, 15])

    def test_rows_behind_the_question_are_not_asked(self):
        self.assertEqual(self.net_of_one(["put 1 3", "ask net 1", "put 1 4", "cut", "ask net 1", "put 1 5"]), [3, 7])

    def test_pieces_that_are_not_there(self):
        for cuts in range(4):
            for first, last in ((0, 0), (1, 1), (2, 1), (cuts, cuts), (0, cuts + 2), (cuts + 1, cuts + 2), (1, 0)):
                told = self.net_of_one(["put 1 1", "cut"] * cuts + [f"ask net 1 of {first} {last}"])
                self.assertEqual(told, ["OutOfReach"])
        great = 10 ** 60 - 1
        for first, last in ((0, great), (great, great), (great - 1, great), (great, 0), (0, 2 ** 64 + 1)):
            self.assertEqual(self.net_of_one(["put 1 1", f"ask net 1 of {first} {last}"]), ["OutOfReach"])

    def test_only_cuts_ahead_count(self):
        lines = ["put 1 1", "ask net 1 of 0 2", "ask net 1 of 1 2", "cut", "ask net 1 of 0 2", "ask net 1 of 1 2"]
        self.assertEqual(self.net_of_one(lines + ["cut"] * 5), ["OutOfReach", "OutOfReach", 1, 0])

    def test_pieces_go_first(self):
        # Each of these would be refused by another name, or by none, where the pieces were there.
        questions = ("net 1", "ranked 1", "often 1 1000000", "often 1 1", "by 0", "by 1", "last 0", "last 1", "distinct", "off")
        for words in questions:
            for behind in ("of 0 2", "of 1 2", "of 0 0", "of 1 0"):
                text = f"keep 2 10 {10 ** 9}\nput 1 1\nask {words} {behind}"
                word = words.split()[0]
                self.assertEqual(answers(text), [(3, word, "OutOfReach")])
                self.assertEqual(plainly(text), [(3, word, "OutOfReach")])

    def test_a_thousand_pieces(self):
        lines = ["cut"] * 499 + ["put 1 1"] + ["cut"] * 500 + ["put 1 5", "ask net 1", "ask net 1 of 0 1000"]
        lines += ["ask net 1 of 499 500", "ask net 1 of 500 999", "ask net 1 of 1 999", "ask net 1 of 999 1000"]
        self.assertEqual(self.net_of_one(lines + ["ask net 1 of 0 1001"]), [6, 6, 1, 0, 1, 5, "OutOfReach"])


class RefusalsTest(unittest.TestCase):
    def told(self, *lines):
        text = "\n".join(lines)
        told = [answer for line, word, answer in answers(text)]
        return told, [answer for line, word, answer in plainly(text)]

    def test_too_fine(self):
        for room in (2, 4, 64):
            questions = [f"ask often 1 {room + 1}", f"ask often 1 {room + 2}", f"ask often 2 {2 * room + 2}"]
            questions += [f"ask often 2 {2 * room + 3}", "ask often 1 1000000", "ask often 1000000 1000000"]
            kept, true = self.told(f"keep {room} 10 5", "put 7 1", *questions)
            self.assertEqual(kept, [[(7, 1, 1)], "TooFine", [(7, 1, 1)], "TooFine", "TooFine", []])
            self.assertEqual(true, [[7], "TooFine", [7], "TooFine", "TooFine", []])

    def test_by_out_of_reach(self):
        questions = ["ask by 0", "ask by 1", "ask by 5", "ask by 6", f"ask by {10 ** 60 - 1}"]
        kept, true = self.told("keep 4 10 5", "put 7 2", "take 7 1", "put 9 3", *questions)
        out = "OutOfReach"
        self.assertEqual(kept, [out, (7, 1, 1), (9, 5, 5), out, out])
        self.assertEqual(true, [out, 7, 9, out, out])

    def test_last_out_of_reach(self):
        questions = ["ask last 0", "ask last 1", "ask last 10", "ask last 11", f"ask last {10 ** 60 - 1}"]
        for behind in ("", " of 0 1", " of 0 2"):
            lines = ["put 7 2", "idle 4", "put 7 3", "cut"] + [words + behind for words in questions]
            kept, true = self.told("keep 4 10 5", *lines)
            out = "OutOfReach"
            self.assertEqual(kept, [out, (3, 3), (5, 5), out, out])
            self.assertEqual(true, [out, 3, 5, out, out])

    def test_off(self):
        lines = ["put 0 1", "put 1 1", "put 2 1", "ask off", "put 1 3", "ask off", "take 0 1", "ask off", "put 9 4", "ask off"]
        kept, true = self.told("keep 4 10 3", *lines, "take 2 5", "ask off", "cut", "ask off of 0 1", "ask off of 1 2")
        two = [(0, -1), (1, 3)]
        self.assertEqual(true, [[], [(1, 3)], two, two] + ["TooManyOff"] * 3)
        self.assertEqual(kept, true)

    def test_a_wide_span(self):
        kept, true = self.told(f"keep 2 10 {10 ** 9}", "ask off", "put 0 1", "ask off")
        self.assertEqual((kept, true), (["TooManyOff"] * 2, ["TooManyOff"] * 2))


class StreamsTest(unittest.TestCase):
    def test_plainly_against_a_plain_count(self):
        for shape, script in all_scripts():
            expected = [(line, words[0], true_told(shape, words, pieces)) for line, words, pieces in asked_rows(script)]
            self.assertEqual(plainly(text_of(shape, script)), expected)

    def test_questions_of_one_piece_against_a_keepsake(self):
        for shape, script in all_scripts():
            told = answers(text_of(shape, script))
            asked = list(asked_rows(script))
            self.assertEqual([each[:2] for each in told], [(line, words[0]) for line, words, pieces in asked])
            for (line, word, answer), (same_line, words, pieces) in zip(told, asked):
                if pieces is None:
                    self.assertEqual(answer, "OutOfReach")
                elif len(pieces) == 1:
                    keepsake = keepsake_of(*shape[:3], pieces[0])
                    self.assertEqual(answer, told_by(keepsake, words))
                    self.assertIs(type(answer), type(told_by(keepsake, words)))

    def test_questions_of_a_few_pieces_against_poured_keepsakes(self):
        for shape, script in all_scripts():
            told = answers(text_of(shape, script))
            for (line, word, answer), (same_line, words, pieces) in zip(told, asked_rows(script)):
                if pieces is not None and 2 <= len(pieces) <= 5:
                    keepsakes = [keepsake_of(*shape[:3], rows) for rows in pieces]
                    self.assertIn(answer, [told_by(keepsake, words) for keepsake in groupings(keepsakes)])

    def test_distinct_and_off_hang_on_the_rows_alone(self):
        for shape, script in all_scripts():
            told = answers(text_of(shape, script))
            for (line, word, answer), (same_line, words, pieces) in zip(told, asked_rows(script)):
                if pieces is not None and word in ("distinct", "off"):
                    keepsake = Keepsake(*shape[:3])
                    for rows in pieces:
                        go_through(keepsake, rows)
                    self.assertEqual(answer, told_by(keepsake, words))

    def test_answers_against_plainly(self):
        names = []
        for shape, script in all_scripts():
            text = text_of(shape, script)
            told = zip(answers(text), plainly(text), asked_rows(script), strict=True)
            for (line, word, answer), (same_line, same_word, true), (asked_line, words, pieces) in told:
                self.assertEqual((line, word), (same_line, same_word))
                names.append(true if true in REFUSALS else word)
                if true in ("OutOfReach", "TooFine"):
                    self.assertEqual(answer, true)
                elif true != "TooManyOff":
                    self.check(shape, words, [row for piece in pieces for row in piece], answer, true)
        for name in REFUSALS + ("net", "ranked", "often", "by", "last", "distinct", "off"):
            self.assertGreater(names.count(name), 9, name)

    def check(self, shape, words, rows, answer, true):
        if words[0] == "off":
            self.assertEqual(answer, true)
        elif words[0] == "often":
            bounds = {thing: (low, high) for thing, low, high in answer}
            self.assertEqual([thing for thing, low, high in answer], sorted(bounds))
            puts = [row for row in rows if row[0] == "put"]
            for thing in true:
                low, high = bounds[thing]
                self.assertTrue(low <= true_answer(puts, "net", thing) <= high)
        elif words[0] == "by":
            thing, first, last = answer
            puts = [row for row in rows if row[0] == "put"]
            self.assertTrue(1 <= first <= words[1] <= last <= true_answer(rows, "all_put"))
            # The thing's own places, counted from 1, are those behind the lesser ones, up to all no greater.
            above, end = true_answer(puts, "ranked", thing - 1), true_answer(puts, "ranked", thing)
            self.assertGreater(end, above)
            self.assertTrue(first <= end and above + 1 <= last)
        else:
            low, high = answer
            self.assertTrue(low <= true <= high, (words, answer, true))


if __name__ == "__main__":
    unittest.main()
