import copy
import itertools
import unittest

from firnfall.piles import depth, laid, taken

MANY = [(0, 3, 2), (1, 4, 1), (3, 6, 9), (4, 7, 3)]
PILES = [[], [(5, 2, 1)], [(5, 2, 4)], MANY, [(10 ** 40, 29, 9), (10 ** 40 + 1, 0, 10 ** 30)]]


def single(runs):
    """The single hands of a pile, from the lowest to the top."""
    return [(year, place) for year, place, many in runs for hand in range(many)]


class LaidTest(unittest.TestCase):
    def test_on_an_empty_pile(self):
        self.assertEqual(laid([], (5, 2, 4)), [(5, 2, 4)])

    def test_on_one_run_and_on_many(self):
        self.assertEqual(laid([(5, 2, 4)], (6, 3, 1)), [(5, 2, 4), (6, 3, 1)])
        self.assertEqual(laid(MANY, (9, 9, 9)), MANY + [(9, 9, 9)])

    def test_one_behind_the_other(self):
        runs = []
        for run in MANY:
            runs = laid(runs, run)
        self.assertEqual(runs, MANY)

    def test_what_is_handed_in_stays_as_it_was(self):
        for pile in PILES:
            runs = copy.deepcopy(pile)
            told = laid(runs, (9, 9, 9))
            self.assertEqual(runs, pile)
            told.append("more")
            told[0] = "other"
            self.assertEqual(runs, pile)
            self.assertEqual(laid(runs, (9, 9, 9)), pile + [(9, 9, 9)])

    def test_what_is_handed_in_is_changed_afterwards(self):
        runs = list(MANY)
        told = laid(runs, (9, 9, 9))
        runs.clear()
        self.assertEqual(told, MANY + [(9, 9, 9)])

    def test_kinds(self):
        told = laid(MANY, (9, 9, 9))
        self.assertIs(type(told), list)
        self.assertEqual({type(run) for run in told}, {tuple})


class TakenTest(unittest.TestCase):
    def test_nought(self):
        for pile in PILES:
            self.assertEqual(taken(pile, 0), (pile, []))

    def test_of_an_empty_pile(self):
        for many in (0, 1, 9, 10 ** 50):
            self.assertEqual(taken([], many), ([], []))

    def test_within_a_run(self):
        self.assertEqual(taken([(5, 2, 4)], 1), ([(5, 2, 3)], [(5, 2, 1)]))
        self.assertEqual(taken([(5, 2, 4)], 3), ([(5, 2, 1)], [(5, 2, 3)]))
        self.assertEqual(taken(MANY, 2), (MANY[:3] + [(4, 7, 1)], [(4, 7, 2)]))
        self.assertEqual(taken(MANY, 5), (MANY[:2] + [(3, 6, 7)], [(4, 7, 3), (3, 6, 2)]))

    def test_at_the_end_of_a_run(self):
        self.assertEqual(taken(MANY, 3), (MANY[:3], [(4, 7, 3)]))
        self.assertEqual(taken(MANY, 12), (MANY[:2], [(4, 7, 3), (3, 6, 9)]))
        self.assertEqual(taken(MANY, 13), (MANY[:1], [(4, 7, 3), (3, 6, 9), (1, 4, 1)]))

    def test_all_and_more_than_all(self):
        self.assertEqual(taken([(5, 2, 4)], 4), ([], [(5, 2, 4)]))
        self.assertEqual(taken([(5, 2, 4)], 5), ([], [(5, 2, 4)]))
        for many in (15, 16, 100, 10 ** 50):
            self.assertEqual(taken(MANY, many), ([], MANY[::-1]))

    def test_every_count_against_single_hands(self):
        for counts in itertools.product((1, 2, 3), repeat=4):
            pile = [(number, number + 2, many) for number, many in enumerate(counts)]
            hands = single(pile)
            for many in range(sum(counts) + 3):
                left, off = taken(pile, many)
                kept = max(0, len(hands) - many)
                self.assertEqual(single(left), hands[:kept])
                self.assertEqual(single(off), hands[kept:][::-1])
                self.assertEqual(len(left), len(set(hands[:kept])))
                self.assertEqual(len(off), len(set(hands[kept:])))

    def test_runs_of_one_fall_are_not_gathered(self):
        self.assertEqual(taken([(5, 2, 1), (5, 2, 2)], 0), ([(5, 2, 1), (5, 2, 2)], []))
        self.assertEqual(taken([(5, 2, 1), (5, 2, 2)], 3), ([], [(5, 2, 2), (5, 2, 1)]))

    def test_very_many_hands_come_soon(self):
        runs = [(0, 0, 10 ** 40), (1, 1, 10 ** 40)]
        self.assertEqual(taken(runs, 10 ** 40 + 1), ([(0, 0, 10 ** 40 - 1)], [(1, 1, 10 ** 40), (0, 0, 1)]))

    def test_what_is_handed_in_stays_as_it_was(self):
        for pile, many in itertools.product(PILES, (0, 1, 3, 5, 100)):
            runs = copy.deepcopy(pile)
            told = taken(runs, many)
            before = copy.deepcopy(told)
            self.assertEqual(runs, pile)
            for part in told:
                part.append("more")
                part[0] = "other"
                part.clear()
            self.assertEqual(runs, pile)
            self.assertEqual(taken(runs, many), before)

    def test_what_is_handed_in_is_changed_afterwards(self):
        for many in (0, 2, 5):
            runs = list(MANY)
            told = taken(runs, many)
            before = copy.deepcopy(told)
            runs.clear()
            self.assertEqual(told, before)

    def test_kinds(self):
        told = taken(MANY, 5)
        self.assertIs(type(told), tuple)
        self.assertEqual([type(part) for part in told], [list, list])
        self.assertEqual({type(run) for part in told for run in part}, {tuple})


class DepthTest(unittest.TestCase):
    def test_depths(self):
        self.assertEqual([depth(pile) for pile in PILES], [0, 1, 4, 15, 10 ** 30 + 9])

    def test_behind_laid_and_taken(self):
        self.assertEqual(depth(laid(MANY, (9, 9, 9))), 24)
        for many in range(20):
            left, off = taken(MANY, many)
            self.assertEqual([depth(left), depth(off)], [max(0, 15 - many), min(15, many)])

    def test_what_is_handed_in_stays_as_it_was(self):
        for pile in PILES:
            runs = copy.deepcopy(pile)
            depth(runs)
            self.assertEqual(runs, pile)


if __name__ == "__main__":
    unittest.main()
