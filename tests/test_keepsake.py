import unittest

from sketchbounds.balance import Balance, poured_balance
from sketchbounds.distinct import Distinct, poured_distinct
from sketchbounds.errors import OutOfReach, TooFine, TooManyOff, Unlike
from sketchbounds.frequent import Frequent, poured_frequent
from sketchbounds.keepsake import Keepsake, empty_like, poured
from sketchbounds.rungs import Rungs, poured_rungs
from sketchbounds.window import Window, followed
from streams import check_pouring, check_refused, fields_of, go_through, keepsake_of, put_and_taken

PARTS = ("came", "went", "up", "down", "window", "seen", "balance")
SHAPES = ((2, 10, 5, 6, 3), (4, 100, 10 ** 9, 20, 10 ** 12), (64, 10 ** 9, 1, 150, 9))


def changed_by(keepsake, rows):
    before = {part: fields_of(getattr(keepsake, part)) for part in PARTS}
    go_through(keepsake, rows)
    return [part for part in PARTS if fields_of(getattr(keepsake, part)) != before[part]]


def go_on(keepsake):
    go_through(keepsake, [("put", 1, 3), ("take", 2, 5), ("idle", 2), ("put", 77, 3), ("put", 0, 4), ("put", 5, 1)])


def stream_keepsakes():
    """Pairs of a keepsake and all its rows: one after the other, and poured in several ways."""
    for room, reach, span, kinds, most_weight in SHAPES:
        rows = put_and_taken(room, 240, kinds, most_weight)
        yield keepsake_of(room, reach, span, rows), rows
        pieces = [keepsake_of(room, reach, span, rows[start:start + 60]) for start in range(0, 240, 60)]
        both = poured(poured(pieces[0], pieces[1]), poured(pieces[2], pieces[3]))
        yield both, rows
        more = put_and_taken(room + 5, 40, kinds, most_weight)
        both = poured(both, both)
        go_through(both, more)
        yield both, rows + rows + more


class FieldsTest(unittest.TestCase):
    def check_bare(self, keepsake, room, reach, span):
        self.assertEqual((keepsake.room, keepsake.reach, keepsake.span), (room, reach, span))
        expected = (
            Frequent(room), Frequent(room), Rungs(room), Rungs(room), Window(room, reach), Distinct(room), Balance(span),
        )
        for part, bare in zip(PARTS, expected):
            held = getattr(keepsake, part)
            self.assertIs(type(held), type(bare))
            self.assertEqual(fields_of(held), fields_of(bare))

    def test_the_fields_at_first(self):
        for room, reach, span in ((2, 1, 1), (64, 10 ** 9, 10 ** 9), (4, 7, 11)):
            self.check_bare(Keepsake(room, reach, span), room, reach, span)

    def test_no_two_parts_are_the_same_object(self):
        keepsake = Keepsake(2, 5, 5)
        self.assertIsNot(keepsake.came, keepsake.went)
        self.assertIsNot(keepsake.up, keepsake.down)

    def test_empty_like(self):
        for room, reach, span in ((2, 1, 3), (64, 10 ** 9, 10 ** 9 - 1)):
            keepsake = keepsake_of(room, reach, span, put_and_taken(1, 40, 9, 9))
            before = fields_of(keepsake)
            fresh = empty_like(keepsake)
            self.assertIs(type(fresh), Keepsake)
            self.check_bare(fresh, room, reach, span)
            go_on(fresh)
            self.assertEqual(fields_of(keepsake), before)
            self.check_bare(empty_like(Keepsake(room, reach, span)), room, reach, span)

    def test_keepsake_and_its_parts_stand_under_no_other_class(self):
        for kind in (Keepsake, Frequent, Rungs, Window, Distinct, Balance):
            self.assertEqual(kind.__bases__, (object,))


class RowsTest(unittest.TestCase):
    def test_which_parts_each_row_changes(self):
        for first in ([], [("put", 3, 2), ("take", 4, 1)]):
            for thing in (0, 4):
                keepsake = keepsake_of(2, 10, 5, first)
                self.assertEqual(changed_by(keepsake, [("put", thing, 3)]), ["came", "up", "window", "seen", "balance"])
                self.assertEqual(changed_by(keepsake, [("take", thing, 3)]), ["went", "down", "window", "balance"])
            for thing in (5, 6, 2 ** 60 - 1):
                keepsake = keepsake_of(2, 10, 5, first)
                self.assertEqual(changed_by(keepsake, [("put", thing, 3)]), ["came", "up", "window", "seen"])
                self.assertEqual(changed_by(keepsake, [("take", thing, 3)]), ["went", "down", "window"])
            keepsake = keepsake_of(2, 10, 5, first)
            self.assertEqual(changed_by(keepsake, [("idle", 3)]), ["window"])

    def test_what_the_rows_do_to_each_part(self):
        for room, reach, span, kinds, most_weight in SHAPES:
            keepsake = Keepsake(room, reach, span)
            parts = (
                Frequent(room), Frequent(room), Rungs(room), Rungs(room), Window(room, reach), Distinct(room),
                Balance(span),
            )
            came, went, up, down, window, seen, balance = parts
            for row in put_and_taken(room, 200, kinds, most_weight) + [("idle", 10 ** 12), ("put", span, 1)]:
                self.assertIsNone(getattr(keepsake, row[0])(*row[1:]))
                if row[0] == "put":
                    came.add(*row[1:])
                    up.add(*row[1:])
                    window.add(row[2])
                    seen.add(row[1])
                elif row[0] == "take":
                    went.add(*row[1:])
                    down.add(*row[1:])
                    window.idle(1)
                else:
                    window.idle(row[1])
                if row[0] != "idle" and row[1] < span:
                    getattr(balance, row[0])(*row[1:])
                self.assertEqual([fields_of(getattr(keepsake, part)) for part in PARTS], [fields_of(p) for p in parts])

    def test_more_may_be_taken_than_was_put(self):
        keepsake = keepsake_of(2, 10, 3, [("take", 1, 5), ("put", 0, 2)])
        self.assertEqual((keepsake.net(1), keepsake.net(0), keepsake.ranked(1)), ((-5, -5), (2, 2), (-3, -3)))
        self.assertEqual(keepsake.balance.sums, [-3, -5, -5, -5])


class PouredTest(unittest.TestCase):
    def check_parts(self, both, one, other):
        pours = (
            poured_frequent, poured_frequent, poured_rungs, poured_rungs, followed, poured_distinct, poured_balance,
        )
        self.assertIs(type(both), Keepsake)
        self.assertEqual((both.room, both.reach, both.span), (one.room, one.reach, one.span))
        for part, pour in zip(PARTS, pours):
            told = fields_of(getattr(both, part))
            self.assertEqual(told, fields_of(pour(getattr(one, part), getattr(other, part))))

    def test_part_by_part(self):
        for room, reach, span, kinds, most_weight in SHAPES:
            for many in (0, 1, 3, 90):
                one = keepsake_of(room, reach, span, put_and_taken(room, 100, kinds, most_weight))
                other = keepsake_of(room, reach, span, put_and_taken(room + 1, many, kinds, most_weight))
                self.check_parts(poured(one, other), one, other)
                self.check_parts(poured(other, one), other, one)
                self.check_parts(poured(one, one), one, one)

    def test_the_others_arrivals_come_behind(self):
        one = keepsake_of(2, 10, 5, [("put", 1, 4), ("idle", 2)])
        other = keepsake_of(2, 10, 5, [("take", 2, 1), ("put", 3, 7)])
        self.assertEqual(poured(one, other).window.boxes, [(1, 1, 4), (5, 5, 7)])
        self.assertEqual(poured(other, one).window.boxes, [(2, 2, 7), (3, 3, 4)])

    def test_all_go_on_by_themselves(self):
        rows = put_and_taken(3, 60, 9, 9)
        check_pouring(
            self, poured, lambda: keepsake_of(4, 30, 6, rows), lambda: keepsake_of(4, 30, 6, rows[:7]), go_on)
        check_pouring(self, poured, lambda: keepsake_of(2, 30, 6, rows), lambda: Keepsake(2, 30, 6), go_on)
        check_pouring(self, poured, lambda: Keepsake(2, 3, 6), lambda: Keepsake(2, 3, 6), go_on)

    def test_what_differs_is_refused(self):
        shape = (4, 10, 20)
        for other in ((2, 10, 20), (64, 10, 20), (4, 11, 20), (4, 1, 20), (4, 10, 19), (4, 10, 10 ** 9)):
            for rows in ([], [("put", 1, 1), ("take", 2, 2)]):
                check_refused(self, Unlike, poured, keepsake_of(*shape, rows), Keepsake(*other))
                check_refused(self, Unlike, poured, Keepsake(*other), keepsake_of(*shape, rows))


class AskedTest(unittest.TestCase):
    def test_net_by_hand(self):
        keepsake = Keepsake(2, 10, 5)
        for thing, weight in ((1, 5), (2, 2), (3, 1)):
            keepsake.put(thing, weight)
        for thing, weight in ((1, 1), (2, 9), (3, 4)):
            keepsake.take(thing, weight)
        self.assertEqual((keepsake.came.counts, keepsake.came.lost), ({1: 4, 2: 1}, 1))
        self.assertEqual((keepsake.went.counts, keepsake.went.lost), ({2: 8, 3: 3}, 1))
        told = [keepsake.net(thing) for thing in (1, 2, 3, 4)]
        self.assertEqual(told, [(3, 5), (-8, -6), (-4, -2), (-1, 1)])
        self.assertIs(type(told[0]), tuple)

    def test_ranked_by_hand(self):
        keepsake = Keepsake(2, 10, 5)
        for thing in (5, 3, 9):
            keepsake.put(thing, 1)
        for thing in (4, 8, 2, 7, 6):
            keepsake.take(thing, 1)
        self.assertEqual([keepsake.up.rank(thing) for thing in (2, 3, 9)], [(0, 0), (1, 2), (2, 3)])
        self.assertEqual([keepsake.down.rank(thing) for thing in (2, 3, 9)], [(1, 3), (1, 3), (4, 5)])
        told = [keepsake.ranked(thing) for thing in (2, 3, 9)]
        self.assertEqual(told, [(-3, -1), (-2, 1), (-3, -1)])
        self.assertIs(type(told[0]), tuple)

    def test_net_and_ranked_against_a_plain_count(self):
        for keepsake, rows in stream_keepsakes():
            nets = {}
            for row in rows:
                if row[0] != "idle":
                    nets[row[1]] = nets.get(row[1], 0) + (row[2] if row[0] == "put" else -row[2])
            for thing in sorted(nets)[::3] + [0, 1, 2 ** 60 - 1]:
                low, high = keepsake.net(thing)
                self.assertTrue(low <= nets.get(thing, 0) <= high)
                came, went = keepsake.came, keepsake.went
                self.assertEqual(low, came.low(thing) - went.high(thing))
                self.assertEqual(high, came.high(thing) - went.low(thing))
                low, high = keepsake.ranked(thing)
                self.assertTrue(low <= sum(more for each, more in nets.items() if each <= thing) <= high)
                up, down = keepsake.up.rank(thing), keepsake.down.rank(thing)
                self.assertEqual((low, high), (up[0] - down[1], up[1] - down[0]))

    def test_the_others_tell_what_their_part_tells(self):
        for keepsake, rows in stream_keepsakes():
            for part, whole in ((1, keepsake.room + 1), (1, 2), (1, 1)):
                self.assertEqual(keepsake.often(part, whole), keepsake.came.often(part, whole))
            for k in (1, 2, keepsake.up.total // 2, keepsake.up.total):
                self.assertEqual(keepsake.by_rank(k), keepsake.up.by_rank(k))
            for many in (1, 2, keepsake.reach // 2, keepsake.reach):
                self.assertEqual(keepsake.last(many), keepsake.window.last(many))
            self.assertEqual(keepsake.distinct(), keepsake.seen.bounds())

    def test_the_others_by_hand(self):
        keepsake = keepsake_of(4, 3, 4, [("put", 0, 1), ("put", 9, 6), ("put", 2, 1), ("take", 9, 6), ("put", 1, 2)])
        self.assertEqual(keepsake.often(1, 2), [(9, 6, 6)])
        self.assertEqual([keepsake.by_rank(k) for k in (1, 4, 10)], [(0, 1, 1), (2, 4, 4), (9, 10, 10)])
        self.assertEqual([keepsake.last(many) for many in (1, 2, 3)], [(2, 2), (2, 2), (3, 3)])
        self.assertEqual(keepsake.distinct(), (4, 4))
        self.assertEqual(keepsake.off(), [(1, 1), (3, -1)])

    def test_they_are_refused_as_their_part_refuses(self):
        keepsake = keepsake_of(4, 3, 4, [("put", 0, 1), ("put", 9, 6), ("take", 1, 50)])
        before = fields_of(keepsake)
        check_refused(self, TooFine, keepsake.often, 1, 6)
        for k in (0, -1, 8):
            check_refused(self, OutOfReach, keepsake.by_rank, k)
        for many in (0, -1, 4):
            check_refused(self, OutOfReach, keepsake.last, many)
        check_refused(self, TooManyOff, keepsake.off)
        self.assertEqual(fields_of(keepsake), before)

    def test_without_rows(self):
        keepsake = Keepsake(2, 3, 2)
        for thing in (0, 5, 2 ** 60 - 1):
            self.assertEqual((keepsake.net(thing), keepsake.ranked(thing)), ((0, 0), (0, 0)))
        self.assertEqual((keepsake.often(1, 3), keepsake.last(3), keepsake.distinct()), ([], (0, 0), (0, 0)))
        self.assertEqual(keepsake.off(), [(0, -1), (1, -1)])
        check_refused(self, TooFine, keepsake.often, 1, 4)
        check_refused(self, OutOfReach, keepsake.by_rank, 1)
        check_refused(self, TooManyOff, Keepsake(2, 3, 3).off)

    def test_what_is_told_is_the_askers_own(self):
        keepsake = keepsake_of(4, 9, 3, [("put", 0, 1), ("put", 1, 5)])
        often, off = keepsake.often(1, 3), keepsake.off()
        self.assertEqual((often, off), ([(1, 5, 5)], [(1, 4), (2, -1)]))
        often.append(1)
        off.append(1)
        self.assertEqual((keepsake.often(1, 3), keepsake.off()), ([(1, 5, 5)], [(1, 4), (2, -1)]))
        often, off = keepsake.often(1, 3), keepsake.off()
        keepsake.put(2, 9)
        self.assertEqual((often, off), ([(1, 5, 5)], [(1, 4), (2, -1)]))


if __name__ == "__main__":
    unittest.main()
