import copy
import itertools
import unittest

from firnfall.errors import BadYear, NoLane, NoPlace
from firnfall.ice import Ice
from firnfall.lives import life, pile
from firnfall.piles import depth
from firnfall.rides import mark, span
from samples import BEHIND, FAR, LAST_ASKED, LONG, ONE, SETTLED, SHORT, SPOT, SURGES, TOLD, TWELVE, TWO, YEARS
from samples import later_rows, made, standing, walks

BAD_YEARS = (-1, LAST_ASKED + 1, -LAST_ASKED, FAR, -FAR)


class LifeTest(unittest.TestCase):
    def test_snow_then_sun(self):
        ice = Ice(SHORT, ONE)
        self.assertEqual(life(ice, 0, 5), [(5, 0, 3, 3), (6, 1, 3, 6), (7, 2, -2, 4)])

    def test_columns_of_the_first_years(self):
        ice = Ice(SHORT, ONE)
        self.assertEqual(life(ice, 0, 0), [(0, 0, 3, 3), (1, 1, 3, 6), (2, 2, -2, 4)])
        self.assertEqual(life(ice, 0, -1), [(0, 1, 3, 3), (1, 2, -2, 1)])
        self.assertEqual(life(ice, 0, -2), [(0, 2, 0, 0)])

    def test_columns_that_are_never_on_the_lane(self):
        ice = made(SHORT, ONE, {}, {0: {5: 9}})
        for label in (-3, -4, -100, 5, 8, 11):
            self.assertEqual(life(ice, 0, label), [])

    def test_a_sun_that_takes_more_than_there_is(self):
        ice = Ice([(-1, (60, 10, 10, 60, 10))], [(50, 3, 2)])
        self.assertEqual(life(ice, 0, 7), [(7, 0, 3, 3), (8, 1, -2, 1), (9, 2, -1, 0), (10, 3, 3, 3), (11, 4, -2, 1)])

    def test_a_sun_over_bare_ground(self):
        ice = Ice([(-1, (10, 10, 60))], [(50, 3, 9)])
        self.assertEqual(life(ice, 0, 7), [(7, 0, 0, 0), (8, 1, 0, 0), (9, 2, 3, 3)])

    def test_neither_snow_nor_sun(self):
        ice = Ice(SHORT, [(50, 0, 0)])
        self.assertEqual(life(ice, 0, 7), [(7, 0, 0, 0), (8, 1, 0, 0), (9, 2, 0, 0)])

    def test_the_weather_of_each_year(self):
        ice = made([(-1, (60, 60, 10, 10))], [(50, 1, 1), (50, 2, 2), (50, 3, 3)], {5: (0, 9, 0), 6: (100, 9, 4)})
        self.assertEqual(life(ice, 0, 3), [(3, 0, 1, 1), (4, 1, 2, 3), (5, 2, 9, 12), (6, 3, -4, 8)])

    def test_columns_of_surge_years(self):
        ice = made([(-1, (90, 80, 70, 60, 20, 10))], ONE, {}, {0: {5: 2}})
        # It leaps from the place 1 over the places 2 and 3.
        self.assertEqual(life(ice, 0, 3), [(3, 0, 3, 3), (4, 1, 3, 6), (5, 4, -2, 4), (6, 5, -2, 2)])
        # The surge brings it on at the place 1, bare.
        self.assertEqual(life(ice, 0, 6)[:2], [(5, 1, 3, 3), (6, 2, 3, 6)])
        # The surge takes it off.
        self.assertEqual(life(ice, 0, 1), [(1, 0, 3, 3), (2, 1, 3, 6), (3, 2, 3, 9), (4, 3, 3, 12)])

    def test_against_a_plain_walk(self):
        for ice, lane, walk in walks():
            for label in range(-100, walk.labels[-1][-1]):
                self.assertEqual(life(ice, lane, label), walk.life(label))

    def test_the_same_many_whole_rounds_later(self):
        for ice, lane, walk in walks():
            label = mark(ice, lane, 0, SETTLED)
            for number in range(len(ice.rows())):
                near = life(ice, lane, label + number)
                for rounds in (1, 10 ** 6, 10 ** 39):
                    later = rounds * len(ice.rows())
                    self.assertEqual(life(ice, lane, label + number + later), later_rows(near, later))

    def test_the_greatest_mark(self):
        ice = made(LONG, TWELVE, TOLD, {0: SURGES})
        rows = life(ice, 0, 10 ** 41)
        first = 10 ** 41 - sum(SURGES.values())
        self.assertEqual([row[:2] for row in rows], [(first + place, place) for place in range(30)])
        rest = first % 12
        near = life(ice, 0, 10 ** 41 - (first - rest - 240))
        self.assertEqual(rows, later_rows(near, first - rest - 240))

    def test_as_many_rows_as_the_span_has_years(self):
        for ice, lane, walk in walks():
            for label in list(range(-100, 130)) + [10 ** 40, 10 ** 41]:
                years = span(ice, lane, label)
                told = [row[0] for row in life(ice, lane, label)]
                self.assertEqual(told, [] if years is None else list(range(years[0], years[1] + 1)))

    def test_no_lane(self):
        for lane, label in itertools.product((-1, 3, FAR, -FAR), (-100, 0, 5, 10 ** 41)):
            with self.assertRaises(NoLane):
                life(Ice(BEHIND, ONE), lane, label)

    def test_told_lists_are_new_ones(self):
        ice = Ice(SHORT, ONE)
        told = life(ice, 0, 5)
        before = list(told)
        told[0] = "other"
        told.clear()
        self.assertEqual(life(ice, 0, 5), before)
        empty = life(ice, 0, -100)
        empty.append("more")
        self.assertEqual(life(ice, 0, -100), [])

    def test_kinds(self):
        told = life(Ice(SHORT, ONE), 0, 5)
        self.assertIs(type(told), list)
        self.assertEqual({type(row) for row in told}, {tuple})
        self.assertEqual(life(Ice(SHORT, ONE), 0, -100), [])


class PileTest(unittest.TestCase):
    def test_snow_upon_snow_and_sun(self):
        ice = Ice(SHORT, ONE)
        self.assertEqual(pile(ice, 0, 0, 7), [(7, 0, 3)])
        self.assertEqual(pile(ice, 0, 1, 7), [(6, 0, 3), (7, 1, 3)])
        self.assertEqual(pile(ice, 0, 2, 7), [(5, 0, 3), (6, 1, 1)])

    def test_the_year_nought(self):
        self.assertEqual([pile(Ice(SHORT, ONE), 0, place, 0) for place in range(3)], [[(0, 0, 3)], [(0, 1, 3)], []])

    def test_a_year_without_snow_lays_no_run(self):
        ice = Ice([(-1, (60, 60, 60))], [(50, 0, 1), (50, 2, 1)])
        self.assertEqual(pile(ice, 0, 2, 8), [(7, 1, 2)])
        self.assertEqual(pile(ice, 0, 2, 9), [(7, 0, 2), (9, 2, 2)])

    def test_melted_and_snowed_upon_again(self):
        ice = Ice([(-1, (60, 10, 60, 10))], [(50, 3, 2)])
        self.assertEqual(pile(ice, 0, 2, 9), [(7, 0, 1), (9, 2, 3)])
        self.assertEqual(pile(ice, 0, 3, 9), [(6, 0, 1), (8, 2, 1)])
        ice.turn([(50, 3, 5)])
        self.assertEqual([pile(ice, 0, place, 9) for place in range(4)], [[(9, 0, 3)], [], [(9, 2, 3)], []])

    def test_a_surge_on_the_way(self):
        ice = made([(-1, (90, 80, 70, 60, 20, 10))], ONE, {}, {0: {5: 2}})
        self.assertEqual(pile(ice, 0, 4, 5), [(3, 0, 3), (4, 1, 1)])
        self.assertEqual(pile(ice, 0, 1, 5), [(5, 1, 3)])
        self.assertEqual(pile(ice, 0, 3, 5), [(4, 0, 3), (5, 3, 3)])

    def test_told_weather_and_plain_again(self):
        ice = made(SHORT, ONE, {6: (100, 0, 9)})
        self.assertEqual(pile(ice, 0, 1, 6), [])
        self.assertEqual(pile(ice, 0, 2, 7), [])
        ice.plain(6)
        self.assertEqual(pile(ice, 0, 2, 7), [(5, 0, 3), (6, 1, 1)])

    def test_against_a_plain_walk(self):
        for ice, lane, walk in walks():
            for year in range(YEARS):
                told = [pile(ice, lane, place, year) for place in range(ice.length(lane))]
                self.assertEqual(told, [walk.runs(place, year) for place in range(ice.length(lane))])

    def test_lanes_side_by_side_are_not_mixed(self):
        ice = made(BEHIND, TWO, {}, {1: {9: 4}})
        alone = [Ice([(-1, (50, 40, 20, 15, 10, 5, 4))], TWO), Ice([(-1, (30, 5, 4))], TWO)]
        for year in range(30):
            for lane, other in ((0, alone[0]), (2, alone[1])):
                for place in range(ice.length(lane)):
                    self.assertEqual(pile(ice, lane, place, year), pile(other, 0, place, year))

    def test_the_same_spot_many_whole_rounds_later(self):
        for ice, lane, walk in walks():
            for number, place in itertools.product(range(len(ice.rows())), range(0, ice.length(lane), 4)):
                near = pile(ice, lane, place, SETTLED + number)
                for rounds in (1, 12345, 10 ** 38):
                    later = rounds * len(ice.rows())
                    self.assertEqual(pile(ice, lane, place, SETTLED + number + later), later_rows(near, later))

    def test_the_last_year(self):
        for ice, lane, walk in walks():
            later = (LAST_ASKED - SETTLED) // len(ice.rows()) * len(ice.rows())
            for place in range(ice.length(lane)):
                near = pile(ice, lane, place, LAST_ASKED - later)
                self.assertEqual(pile(ice, lane, place, LAST_ASKED), later_rows(near, later))

    def test_as_deep_as_the_life_tells(self):
        for ice, lane, walk in walks():
            for place, year in itertools.product(range(ice.length(lane)), (0, 5, 34, 101, LAST_ASKED)):
                rows = life(ice, lane, mark(ice, lane, place, year))
                told = [lying for when, where, moved, lying in rows if when == year]
                self.assertEqual([depth(pile(ice, lane, place, year))], told)

    def test_the_order_of_the_refusals(self):
        ice = made(BEHIND, ONE, {}, {0: {5: 3}})
        places, years = (0, -1, 7, 30, FAR, -FAR), (3,) + BAD_YEARS
        for lane, place, year in itertools.product((-1, 3, FAR, -FAR), places, years):
            with self.assertRaises(NoLane):
                pile(ice, lane, place, year)
        for place, year in itertools.product(places[1:], years):
            with self.assertRaises(NoPlace):
                pile(ice, 0, place, year)
        for place, year in itertools.product((0, 6), BAD_YEARS):
            with self.assertRaises(BadYear):
                pile(ice, 0, place, year)

    def test_told_lists_are_new_ones(self):
        ice = Ice(SHORT, ONE)
        for place in range(3):
            told = pile(ice, 0, place, 7)
            before = list(told)
            told[0] = "other"
            told.clear()
            self.assertEqual(pile(ice, 0, place, 7), before)
        bare = pile(Ice(SPOT, [(100, 0, 0)]), 0, 0, 7)
        self.assertEqual(bare, [])
        bare.append("more")
        self.assertEqual(pile(Ice(SPOT, [(100, 0, 0)]), 0, 0, 7), [])

    def test_kinds(self):
        told = pile(Ice(SHORT, ONE), 0, 2, 7)
        self.assertIs(type(told), list)
        self.assertEqual({type(run) for run in told}, {tuple})


class NothingIsChangedTest(unittest.TestCase):
    def test_the_ice_stays_as_it_was(self):
        ice = made(BEHIND, TWO, TOLD, {0: SURGES})
        before = copy.deepcopy(standing(ice))
        for year in (0, 5, 100, LAST_ASKED):
            life(ice, 0, year)
            pile(ice, 0, 6, year)
        for ask in (lambda: life(ice, 3, 0), lambda: pile(ice, 0, 7, 0), lambda: pile(ice, 0, 0, -1)):
            with self.assertRaises(ValueError):
                ask()
        self.assertEqual(standing(ice), before)


if __name__ == "__main__":
    unittest.main()
