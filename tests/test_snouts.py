import copy
import itertools
import unittest

from firnfall.errors import BadYear, NoLane
from firnfall.ice import Ice
from firnfall.snouts import snout, snouts
from samples import BEHIND, FAR, GREATEST, LAST_ASKED, LONG, ONE, SETTLED, SHORT, SPOT, SURGES, TOLD, TWELVE, TWO
from samples import WAVES, YEARS, made, standing, walks

BAD_YEARS = (-1, LAST_ASKED + 1, -LAST_ASKED, FAR, -FAR)


def shortest_pair(places, bound):
    """The beginning and the round of a row, the round no longer than a bound, found by trying each one."""
    for many in range(1, bound + 1):
        for ahead in range(len(places) - 2 * bound):
            if places[ahead + many:] == places[ahead:-many]:
                return (places[:ahead], places[ahead:ahead + many])
    return None


def written_out(pair, many):
    """So many places of a row that is told as a beginning and a round."""
    beginning, again = pair
    return (beginning + again * (many // len(again) + 1))[:many]


class SnoutTest(unittest.TestCase):
    def test_down_to_where_the_sun_takes_all(self):
        ice = Ice([(-1, (90, 60, 30, 20, 10))], [(50, 3, 2)])
        self.assertEqual([snout(ice, 0, year) for year in range(6)], [1, 2, 2, 3, 3, 3])
        ice.turn([(50, 3, 4)])
        self.assertEqual([snout(ice, 0, year) for year in range(6)], [1, 1, 2, 2, 2, 2])

    def test_ice_below_bare_places(self):
        ice = Ice([(-1, (90, 10, 10, 60))], [(50, 2, 9)])
        self.assertEqual([snout(ice, 0, year) for year in (0, 1, 9, LAST_ASKED)], [3, 3, 3, 3])

    def test_a_bare_lane(self):
        for rows in ([(100, 9, 0)], [(50, 0, 3)], [(0, 0, 0)]):
            ice = Ice(SHORT, rows)
            for year in (0, 1, 50, LAST_ASKED):
                self.assertIsNone(snout(ice, 0, year))

    def test_a_lane_that_is_bare_for_a_while(self):
        ice = made(SPOT, [(40, 1, 0)], {3: (99, 1, 0), 4: (41, 1, 0)})
        self.assertEqual([snout(ice, 0, year) for year in range(7)], [0, 0, 0, None, None, 0, 0])

    def test_a_surge_takes_the_ice_farther_down(self):
        ice = made([(-1, (90, 60, 30, 20, 10))], [(50, 3, 4)], {}, {0: {5: 2}})
        self.assertEqual([snout(ice, 0, year) for year in range(3, 9)], [2, 2, 4, 1, 2, 2])

    def test_against_a_plain_walk(self):
        for ice, lane, walk in walks():
            told = [snout(ice, lane, year) for year in range(0, YEARS, 3)]
            self.assertEqual(told, [walk.snout(year) for year in range(0, YEARS, 3)])

    def test_each_year_of_some_lanes(self):
        for ice, lane, walk in walks()[::5]:
            told = [snout(ice, lane, year) for year in range(YEARS)]
            self.assertEqual(told, [walk.snout(year) for year in range(YEARS)])

    def test_far_years(self):
        for ice, lane, walk in walks():
            for number in range(len(ice.rows())):
                for year in (10 ** 6 + number, 10 ** 39 + number, LAST_ASKED - number):
                    near = SETTLED + (year - SETTLED) % len(ice.rows())
                    self.assertEqual(snout(ice, lane, year), walk.snout(near))

    def test_the_order_of_the_refusals(self):
        ice = made(BEHIND, ONE, {}, {0: {5: 3}})
        for lane, year in itertools.product((-1, 3, FAR, -FAR), (0, 5) + BAD_YEARS):
            with self.assertRaises(NoLane):
                snout(ice, lane, year)
        for lane, year in itertools.product((0, 1, 2), BAD_YEARS):
            with self.assertRaises(BadYear):
                snout(ice, lane, year)


class SnoutsTest(unittest.TestCase):
    def test_a_round_behind_a_beginning(self):
        ice = Ice([(-1, (90, 60, 30, 20, 10))], [(50, 3, 2)])
        self.assertEqual(snouts(ice, 0), ([1, 2, 2], [3]))
        ice.turn([(50, 3, 4)])
        self.assertEqual(snouts(ice, 0), ([1, 1], [2]))

    def test_no_beginning(self):
        self.assertEqual(snouts(Ice(SPOT, [(40, 1, 0)]), 0), ([], [0]))
        self.assertEqual(snouts(Ice(SPOT, [(40, 1, 0), (41, 1, 0)]), 0), ([], [0, None]))
        self.assertEqual(snouts(Ice(SPOT, [(41, 1, 0), (40, 1, 0)]), 0), ([], [None, 0]))

    def test_a_bare_lane(self):
        self.assertEqual(snouts(Ice(SHORT, [(100, 9, 0)]), 0), ([], [None]))
        self.assertEqual(snouts(Ice(LONG, [(0, 0, 0)] * 12), 0), ([], [None]))

    def test_a_round_shorter_than_that_of_the_weather(self):
        for times in (1, 2, 3, 4, 6):
            self.assertEqual(snouts(Ice(SPOT, [(40, 1, 0), (41, 1, 0)] * times), 0), ([], [0, None]))
        rows = [(40, 1, 0), (40, 1, 0), (41, 1, 0)]
        for times in (1, 2, 3, 4):
            self.assertEqual(snouts(Ice(SPOT, rows * times), 0), ([], [0, 0, None]))
        # Unlike weather, like snouts.
        self.assertEqual(snouts(Ice(SPOT, [(40, 1, 0), (30, 5, 9), (41, 1, 0), (99, 1, 1)]), 0), ([], [0, 0, None, None]))
        self.assertEqual(snouts(Ice(SPOT, [(40, 1, 0), (99, 5, 9), (0, 9, 9), (41, 1, 1)]), 0), ([], [0, None]))

    def test_a_round_that_begins_within_that_of_the_weather(self):
        ice = made(SPOT, [(40, 1, 0), (40, 1, 0), (41, 1, 0)], {0: (41, 1, 0)})
        self.assertEqual(snouts(ice, 0), ([None], [0, None, 0]))
        ice = made(SPOT, [(40, 1, 0), (40, 1, 0), (41, 1, 0)], {4: (41, 1, 0)})
        self.assertEqual(snouts(ice, 0), ([0, 0, None, 0, None], [None, 0, 0]))

    def test_a_told_year_that_changes_no_snout(self):
        ice = made(SPOT, [(40, 1, 0), (41, 1, 0)], {98: (0, 9, 9), 99: (99, 9, 9)})
        self.assertEqual(snouts(ice, 0), ([], [0, None]))

    def test_the_last_year_that_may_be_told(self):
        ice = made(SPOT, [(40, 1, 0)], {99: (99, 9, 9)})
        self.assertEqual(snouts(ice, 0), ([0] * 99 + [None], [0]))
        ice = made([(-1, (90, 60, 30, 20, 10))], [(50, 3, 4)], {}, {0: {99: 2}})
        self.assertEqual(snouts(ice, 0), ([1, 1] + [2] * 97 + [4, 1], [2]))

    def test_against_the_snouts_of_many_years(self):
        for ice, lane, walk in walks():
            pair = snouts(ice, lane)
            many = SETTLED + 5 * len(ice.rows())
            told = [snout(ice, lane, year) for year in range(0, many, 4)]
            self.assertEqual(written_out(pair, many)[::4], told)
            self.assertEqual(written_out(pair, YEARS), [walk.snout(year) for year in range(YEARS)])

    def test_far_years(self):
        for ice, lane, walk in walks():
            beginning, again = snouts(ice, lane)
            for year in [10 ** 39 + number for number in range(13)] + [LAST_ASKED - number for number in range(13)]:
                self.assertEqual(snout(ice, lane, year), again[(year - len(beginning)) % len(again)])

    def test_as_short_as_can_be(self):
        for ice, lane, walk in walks():
            places = [walk.snout(year) for year in range(YEARS)]
            self.assertEqual(snouts(ice, lane), shortest_pair(places, 12))

    def test_the_round_is_no_shorter_row_again_and_again(self):
        for ice, lane, walk in walks():
            beginning, again = snouts(ice, lane)
            self.assertEqual(len(ice.rows()) % len(again), 0)
            for many in range(1, len(again)):
                self.assertFalse(len(again) % many == 0 and again == again[:many] * (len(again) // many))
            if beginning:
                self.assertNotEqual(beginning[-1], again[-1])

    def test_told_years_and_surges_and_none(self):
        for rows in (ONE, TWELVE):
            for told, surges in itertools.product(({}, TOLD), ({}, SURGES)):
                ice = made(WAVES, rows, told, {0: surges})
                many = SETTLED + 40
                self.assertEqual(written_out(snouts(ice, 0), many), [snout(ice, 0, year) for year in range(many)])

    def test_told_lists_are_new_ones(self):
        ice = Ice([(-1, (90, 60, 30, 20, 10))], [(50, 3, 2)])
        beginning, again = snouts(ice, 0)
        beginning[0] = "other"
        beginning.append("more")
        again.clear()
        self.assertEqual(snouts(ice, 0), ([1, 2, 2], [3]))

    def test_kinds(self):
        told = snouts(Ice(SHORT, ONE), 0)
        self.assertIs(type(told), tuple)
        self.assertEqual([type(part) for part in told], [list, list])

    def test_no_lane(self):
        for lane in (-1, 3, 6, FAR, -FAR):
            with self.assertRaises(NoLane):
                snouts(Ice(BEHIND, ONE), lane)


class MoreIceTest(unittest.TestCase):
    def test_no_snout_reaches_less_far(self):
        for reaches, rows in itertools.product((SHORT, WAVES, BEHIND), ([(50, 3, 4)], TWO, [(40, 2, 3), (60, 1, 5)])):
            ice = made(reaches, rows, {}, {0: {4: 2}})
            for year in range(8):
                line, snow, sun = ice.weather(year)
                for row in ((line, snow + 1, sun), (line, snow, sun - 1)):
                    other = ice.twin()
                    other.tell(year, row)
                    self.check(ice, other)
            line, snow, sun = rows[0]
            self.check(ice, made(reaches, [(line, snow + 1, sun)] + rows[1:], {}, {0: {4: 2}}))
            self.check(ice, made(reaches, [(line, snow, sun - 1)] + rows[1:], {}, {0: {4: 2}}))

    def check(self, ice, richer):
        for lane in range(ice.many()):
            less = written_out(snouts(ice, lane), 40)
            more = written_out(snouts(richer, lane), 40)
            for place, other in zip(less, more):
                self.assertLessEqual(-1 if place is None else place, -1 if other is None else other)


class NothingIsChangedTest(unittest.TestCase):
    def test_the_ice_stays_as_it_was(self):
        ice = made(GREATEST, TWO, TOLD, {0: SURGES})
        before = copy.deepcopy(standing(ice))
        for lane in range(6):
            snouts(ice, lane)
            for year in (0, 5, 100, LAST_ASKED):
                snout(ice, lane, year)
        for ask in (lambda: snout(ice, 6, 0), lambda: snout(ice, 0, -1), lambda: snouts(ice, 6)):
            with self.assertRaises(ValueError):
                ask()
        self.assertEqual(standing(ice), before)


if __name__ == "__main__":
    unittest.main()
