import copy
import itertools
import unittest

from firnfall.errors import BadYear, NoLane
from firnfall.ice import Ice
from firnfall.lives import pile
from firnfall.piles import depth
from firnfall.sums import so_far, sums
from samples import BEHIND, FAR, GREATEST, LAST_ASKED, ONE, SETTLED, SHORT, SPOT, SURGES, TOLD, TWO, YEARS
from samples import made, standing, walks

BAD_YEARS = (-1, LAST_ASKED + 1, -LAST_ASKED, FAR, -FAR)
# The first years, those round the last ones that may be told, and far ones.
SOME_YEARS = (0, 1, 2, 31, 97, 98, 99, 100, 101, 110, 128, 129, 130, 131, 142, 10 ** 6, LAST_ASKED - 1, LAST_ASKED)


def added(one, other):
    """The first three sums of both together, and what lies of the other one."""
    return tuple(a + b for a, b in zip(one[:3], other[:3])) + (other[3],)


class SumsTest(unittest.TestCase):
    def test_a_lane_of_three_places(self):
        ice = Ice(SHORT, ONE)
        told = [sums(ice, 0, year) for year in range(5)]
        self.assertEqual(told, [(6, 0, 0, 6), (6, 2, 0, 10), (6, 2, 1, 13), (6, 2, 4, 13), (6, 2, 4, 13)])

    def test_a_spot(self):
        ice = Ice(SPOT, [(40, 3, 0), (41, 3, 2)])
        told = [sums(ice, 0, year) for year in range(4)]
        self.assertEqual(told, [(3, 0, 0, 3), (0, 0, 3, 0), (3, 0, 0, 3), (0, 0, 3, 0)])

    def test_a_bare_lane(self):
        for year in (0, 1, 100, LAST_ASKED):
            self.assertEqual(sums(Ice(SHORT, [(100, 9, 9)]), 0, year), (0, 0, 0, 0))

    def test_a_surge_takes_several_columns_off(self):
        ice = made(SHORT, ONE, {}, {0: {4: 1, 6: 9}})
        told = [sums(ice, 0, year) for year in range(3, 8)]
        self.assertEqual(told, [(6, 2, 4, 13), (6, 2, 10, 7), (6, 2, 1, 10), (6, 0, 10, 6), (6, 2, 0, 10)])

    def test_a_surge_in_the_year_nought(self):
        ice = made(SHORT, ONE, {}, {0: {0: 9}})
        self.assertEqual([sums(ice, 0, year) for year in range(2)], [(6, 0, 0, 6), (6, 2, 0, 10)])

    def test_against_a_plain_walk(self):
        for ice, lane, walk in walks():
            told = [sums(ice, lane, year) for year in range(0, YEARS, 3)]
            self.assertEqual(told, [walk.sums(year) for year in range(0, YEARS, 3)])

    def test_each_year_of_some_lanes(self):
        for ice, lane, walk in walks()[::5]:
            told = [sums(ice, lane, year) for year in range(YEARS)]
            self.assertEqual(told, [walk.sums(year) for year in range(YEARS)])

    def test_the_years_round_the_last_told_one_and_the_last_surge(self):
        for last in (5, 60, 99):
            for told, surges in itertools.product(({}, {last: (0, 9, 0)}, {last: (100, 0, 9)}), ({}, {last: 7})):
                ice = made(SHORT, TWO, told, {0: surges})
                near = made(SHORT, TWO, told, {0: surges})
                # Something told in the last year, as the round has it, changes no sum.
                if 99 not in told:
                    near.tell(99, TWO[1])
                for year in range(last - 2, last + 8):
                    self.assertEqual(sums(ice, 0, year), sums(near, 0, year))
                    self.assertEqual(so_far(ice, 0, year), so_far(near, 0, year))

    def test_far_years(self):
        for ice, lane, walk in walks():
            for number in range(len(ice.rows())):
                for year in (10 ** 6 + number, 10 ** 39 + number, LAST_ASKED - number):
                    near = SETTLED + (year - SETTLED) % len(ice.rows())
                    self.assertEqual(sums(ice, lane, year), walk.sums(near))

    def test_what_lies_is_the_sum_of_the_piles(self):
        for ice, lane, walk in walks():
            for year in SOME_YEARS:
                lying = sum(depth(pile(ice, lane, place, year)) for place in range(ice.length(lane)))
                self.assertEqual(sums(ice, lane, year)[3], lying)
                self.assertEqual(so_far(ice, lane, year)[3], lying)

    def test_kinds(self):
        for ask in (sums, so_far):
            told = ask(Ice(SHORT, ONE), 0, 5)
            self.assertIs(type(told), tuple)
            self.assertEqual([type(part) for part in told], [int] * 4)


class SoFarTest(unittest.TestCase):
    def test_a_lane_of_three_places(self):
        ice = Ice(SHORT, ONE)
        told = [so_far(ice, 0, year) for year in range(5)]
        self.assertEqual(told, [(6, 0, 0, 6), (12, 2, 0, 10), (18, 4, 1, 13), (24, 6, 5, 13), (30, 8, 9, 13)])

    def test_the_last_year_of_a_spot(self):
        ice = Ice(SPOT, [(40, 3, 0), (41, 3, 2)])
        fallen = 3 * (LAST_ASKED // 2 + 1)
        self.assertEqual(so_far(ice, 0, LAST_ASKED), (fallen, 0, fallen - 3, 3))
        self.assertEqual(so_far(ice, 0, LAST_ASKED - 1), (fallen - 3, 0, fallen - 3, 0))

    def test_the_last_year_behind_told_years(self):
        ice = made(SPOT, [(40, 3, 0)], {4: (0, 9, 0), 99: (99, 0, 0)})
        self.assertEqual(so_far(ice, 0, LAST_ASKED), (3 * LAST_ASKED + 6, 0, 3 * LAST_ASKED + 3, 3))

    def test_against_a_plain_walk(self):
        for ice, lane, walk in walks():
            sum_so_far = (0, 0, 0, 0)
            for year in range(YEARS):
                sum_so_far = added(sum_so_far, walk.sums(year))
                if year % 4 == 0 or lane == 0 and 90 < year < 150:
                    self.assertEqual(so_far(ice, lane, year), sum_so_far)

    def test_fallen_is_what_melted_what_is_gone_and_what_lies(self):
        for ice, lane, walk in walks():
            for year in SOME_YEARS + tuple(10 ** 30 + number for number in range(13)):
                fallen, melted, gone, lying = so_far(ice, lane, year)
                self.assertEqual(fallen, melted + gone + lying)

    def test_so_far_a_year_ahead_and_the_sums_of_the_year(self):
        for ice, lane, walk in walks():
            for year in SOME_YEARS + tuple(10 ** 30 + number for number in range(13)):
                before = so_far(ice, lane, year - 1) if year else (0, 0, 0, 0)
                self.assertEqual(so_far(ice, lane, year), added(before, sums(ice, lane, year)))

    def test_each_round_adds_alike(self):
        for ice, lane, walk in walks():
            many = len(ice.rows())
            for year in (SETTLED, SETTLED + 1, SETTLED + 7):
                near = so_far(ice, lane, year)
                one = [more - less for more, less in zip(so_far(ice, lane, year + many), near)]
                self.assertEqual(one[3], 0)
                for rounds in (2, 3, 10 ** 20, (LAST_ASKED - year) // many):
                    told = so_far(ice, lane, year + rounds * many)
                    self.assertEqual(told, tuple(a + rounds * b for a, b in zip(near, one)))


class RefusalTest(unittest.TestCase):
    def test_the_order_of_the_refusals(self):
        ice = made(BEHIND, ONE, {}, {0: {5: 3}})
        for ask in (sums, so_far):
            for lane, year in itertools.product((-1, 3, FAR, -FAR), (0, 5) + BAD_YEARS):
                with self.assertRaises(NoLane):
                    ask(ice, lane, year)
            for lane, year in itertools.product((0, 1, 2), BAD_YEARS):
                with self.assertRaises(BadYear):
                    ask(ice, lane, year)


class NothingIsChangedTest(unittest.TestCase):
    def test_the_ice_stays_as_it_was(self):
        ice = made(GREATEST, TWO, TOLD, {0: SURGES})
        before = copy.deepcopy(standing(ice))
        for lane, year in itertools.product(range(6), (0, 5, 100, LAST_ASKED)):
            sums(ice, lane, year)
            so_far(ice, lane, year)
        for ask, (lane, year) in itertools.product((sums, so_far), ((6, 0), (0, -1))):
            with self.assertRaises(ValueError):
                ask(ice, lane, year)
        self.assertEqual(standing(ice), before)


if __name__ == "__main__":
    unittest.main()
