import unittest

from sketchbounds.errors import Unlike
from sketchbounds.rungs import Rungs, poured_rungs
from streams import check_pouring, check_refused, fields_of, rows_of, rungs_of


def go_on(rungs):
    for thing in (1, 50, 51, 52):
        rungs.add(thing, 7)


class PouredTest(unittest.TestCase):
    def test_two_that_fit_together(self):
        one = rungs_of(4, [(5, 1), (3, 2)])
        other = rungs_of(4, [(4, 1), (9, 8)])
        for poured in (poured_rungs(one, other), poured_rungs(other, one)):
            self.assertIsInstance(poured, Rungs)
            self.assertEqual(fields_of(poured), {
                "room": 4, "total": 12, "over": 0, "under": 0, "turns": 0, "least": 3, "most": 9,
                "rungs": [[4, 5], [3], [], [9]],
            })

    def test_two_that_must_be_settled(self):
        one = rungs_of(2, [(5, 1), (3, 1), (9, 1), (8, 1)])
        self.assertEqual(one.rungs, [[8, 9], [3]])
        other = rungs_of(2, [(7, 1), (6, 1), (1, 2), (2, 2)])
        self.assertEqual(other.rungs, [[6, 7], [1, 2]])
        for poured in (poured_rungs(one, other), poured_rungs(other, one)):
            # Turns is 1 at first: 7 and 9 rise, and of 1, 2, 3, 7, 9 in list 1 the lesser ones of two pairs.
            self.assertEqual(fields_of(poured), {
                "room": 2, "total": 10, "over": 3, "under": 1, "turns": 3, "least": 1, "most": 9,
                "rungs": [[], [9], [1, 3]],
            })

    def test_the_counts_of_both_are_added(self):
        fresh = rungs_of(2, [(1, 1), (2, 1), (3, 1)])
        self.assertEqual((fresh.over, fresh.under, fresh.turns, fresh.rungs), (1, 0, 1, [[3], [1]]))
        again = rungs_of(2, [(1, 1), (2, 1), (3, 1), (4, 1), (5, 1), (6, 16)])
        self.assertEqual((again.over, again.under, again.turns), (1, 1, 2))
        poured = poured_rungs(again, rungs_of(2, [(7, 32)]))
        self.assertEqual((poured.over, poured.under, poured.turns), (1, 1, 2))
        poured = poured_rungs(rungs_of(2, [(6, 16)]), fresh)
        self.assertEqual((poured.over, poured.under, poured.turns), (1, 0, 1))
        poured = poured_rungs(fresh, fresh)
        self.assertEqual((poured.over, poured.under, poured.turns, poured.rungs), (2, 0, 2, [[3, 3], [1, 1]]))

    def test_one_with_itself(self):
        one = rungs_of(2, [(1, 1), (2, 1), (3, 2)])
        self.assertEqual(one.rungs, [[1, 2], [3]])
        poured = poured_rungs(one, one)
        self.assertEqual(fields_of(poured), {
            "room": 2, "total": 8, "over": 1, "under": 2, "turns": 2, "least": 1, "most": 3,
            "rungs": [[], [], [2, 3]],
        })
        self.assertEqual(one.rungs, [[1, 2], [3]])

    def test_with_one_without_rows(self):
        one = rungs_of(2, rows_of(3, 40, 9, 5))
        for poured in (poured_rungs(one, Rungs(2)), poured_rungs(Rungs(2), one)):
            self.assertEqual(fields_of(poured), fields_of(one))
            self.assertIsNot(poured, one)
        bare = Rungs(2)
        self.assertEqual(fields_of(poured_rungs(bare, bare)), fields_of(bare))

    def test_least_and_most_of_both(self):
        low, high = rungs_of(2, [(0, 1), (4, 1)]), rungs_of(2, [(2, 1), (9, 1)])
        for poured in (poured_rungs(low, high), poured_rungs(high, low)):
            self.assertEqual((poured.least, poured.most), (0, 9))
        for poured in (poured_rungs(low, Rungs(2)), poured_rungs(Rungs(2), low)):
            self.assertEqual((poured.least, poured.most), (0, 4))
        bare = poured_rungs(Rungs(2), Rungs(2))
        self.assertEqual((bare.least, bare.most), (None, None))

    def test_all_go_on_by_themselves(self):
        check_pouring(self, poured_rungs, lambda: rungs_of(2, [(5, 3), (3, 3)]), lambda: rungs_of(2, [(9, 1)]), go_on)
        check_pouring(self, poured_rungs, lambda: rungs_of(4, rows_of(2, 30, 9, 9)), lambda: Rungs(4), go_on)
        check_pouring(self, poured_rungs, lambda: Rungs(2), lambda: Rungs(2), go_on)

    def test_poured_goes_on_like_any_other(self):
        poured = poured_rungs(rungs_of(2, [(1, 1)]), rungs_of(2, [(2, 1)]))
        poured.add(3, 1)
        self.assertEqual(fields_of(poured), fields_of(rungs_of(2, [(1, 1), (2, 1), (3, 1)])))


class UnlikeTest(unittest.TestCase):
    def test_rooms_that_differ_are_refused(self):
        check_refused(self, Unlike, poured_rungs, Rungs(2), Rungs(4))
        check_refused(self, Unlike, poured_rungs, rungs_of(4, [(1, 1)]), rungs_of(2, [(1, 1)]))
        check_refused(self, Unlike, poured_rungs, rungs_of(64, [(1, 1)]), Rungs(62))


if __name__ == "__main__":
    unittest.main()
