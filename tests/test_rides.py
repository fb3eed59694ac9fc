import copy
import itertools
import unittest

from firnfall.errors import BadYear, NoLane, NoPlace
from firnfall.ice import Ice
from firnfall.rides import mark, ridden, span, stands
from samples import BEHIND, FAR, LAST_ASKED, LONG, ONE, SHORT, SIX, SPOT, SURGES, TWO, WAVES, YEARS
from samples import made, standing, walks

BAD_YEARS = (-1, LAST_ASKED + 1, -LAST_ASKED, FAR, -FAR)
LEAST_MARK, GREATEST_MARK = -100, 10 ** 41


class RiddenTest(unittest.TestCase):
    def test_without_surges(self):
        ice = Ice(BEHIND, ONE)
        for year in (0, 1, 2, 99, 100, 10 ** 20, LAST_ASKED):
            self.assertEqual(ridden(ice, 0, year), year)

    def test_ahead_of_surges_at_them_between_them_and_behind_them(self):
        ice = made(BEHIND, ONE, {}, {0: {5: 3, 6: 1, 9: 9}})
        self.assertEqual([ridden(ice, 0, year) for year in range(12)], [0, 1, 2, 3, 4, 8, 10, 11, 12, 22, 23, 24])

    def test_surges_in_the_first_and_in_the_last_year(self):
        ice = made(BEHIND, ONE, {}, {0: {0: 9, 99: 4}})
        self.assertEqual([ridden(ice, 0, year) for year in (0, 1, 98, 99, 100)], [9, 10, 107, 112, 113])

    def test_far_years(self):
        ice = made(BEHIND, ONE, {}, {0: SURGES, 1: {50: 2}})
        many = sum(SURGES.values())
        for year in (100, 10 ** 9, LAST_ASKED - 1, LAST_ASKED):
            self.assertEqual([ridden(ice, lane, year) for lane in range(3)], [year + many, year + 2, year])

    def test_surges_of_other_lanes_do_not_count(self):
        ice = made(BEHIND, ONE, {}, {0: {5: 3}, 2: {4: 7}})
        self.assertEqual([ridden(ice, 0, year) for year in range(7)], [0, 1, 2, 3, 4, 8, 9])
        self.assertEqual([ridden(ice, 1, year) for year in range(7)], [0, 1, 2, 3, 4, 5, 6])
        self.assertEqual([ridden(ice, 2, year) for year in range(7)], [0, 1, 2, 3, 11, 12, 13])

    def test_a_surge_that_is_no_more(self):
        ice = made(BEHIND, ONE, {}, {0: {5: 3, 7: 2}})
        ice.surge(0, 5, 9)
        self.assertEqual(ridden(ice, 0, 8), 19)
        ice.calm(0, 5)
        self.assertEqual(ridden(ice, 0, 8), 10)

    def test_against_a_plain_walk(self):
        for ice, lane, walk in walks():
            self.assertEqual([ridden(ice, lane, year) for year in range(YEARS)], [row[0] for row in walk.labels])

    def test_refusals(self):
        ice = made(BEHIND, ONE, {}, {0: {5: 3}})
        for lane, year in itertools.product((-1, 3, FAR, -FAR), (0, 5) + BAD_YEARS):
            with self.assertRaises(NoLane):
                ridden(ice, lane, year)
        for lane, year in itertools.product((0, 1, 2), BAD_YEARS):
            with self.assertRaises(BadYear):
                ridden(ice, lane, year)


class MarkTest(unittest.TestCase):
    def test_the_year_nought(self):
        self.assertEqual([mark(Ice(BEHIND, ONE), 2, place, 0) for place in range(3)], [0, -1, -2])
        ice = made(BEHIND, ONE, {}, {2: {0: 5}})
        self.assertEqual([mark(ice, 2, place, 0) for place in range(3)], [5, 4, 3])

    def test_against_a_plain_walk(self):
        for ice, lane, walk in walks():
            for year in range(YEARS):
                told = [mark(ice, lane, place, year) for place in range(ice.length(lane))]
                self.assertEqual(told, walk.labels[year])

    def test_all_places_in_far_years(self):
        ice = made(BEHIND, ONE, {}, {0: SURGES})
        many = sum(SURGES.values())
        for year in (10 ** 9, LAST_ASKED):
            told = [mark(ice, 0, place, year) for place in range(7)]
            self.assertEqual(told, [year + many - place for place in range(7)])
            self.assertEqual([mark(ice, 1, place, year) for place in range(9)], [year - place for place in range(9)])

    def test_a_column_keeps_its_mark(self):
        ice = made(BEHIND, ONE, {}, {1: {5: 3}})
        self.assertEqual(mark(ice, 1, 1, 4), 3)
        self.assertEqual(mark(ice, 1, 5, 5), 3)
        self.assertEqual(mark(ice, 1, 6, 6), 3)

    def test_the_order_of_the_refusals(self):
        ice = made(BEHIND, ONE, {}, {0: {5: 3}})
        places, years = (0, -1, 7, 30, FAR, -FAR), (3,) + BAD_YEARS
        for lane, place, year in itertools.product((-1, 3, FAR, -FAR), places, years):
            with self.assertRaises(NoLane):
                mark(ice, lane, place, year)
        for place, year in itertools.product(places[1:], years):
            with self.assertRaises(NoPlace):
                mark(ice, 0, place, year)
        for place, year in itertools.product((0, 6), BAD_YEARS):
            with self.assertRaises(BadYear):
                mark(ice, 0, place, year)

    def test_places_of_each_lane(self):
        ice = Ice(BEHIND, ONE)
        for lane, many in enumerate((7, 9, 3)):
            mark(ice, lane, many - 1, 0)
            with self.assertRaises(NoPlace):
                mark(ice, lane, many, 0)


class StandsTest(unittest.TestCase):
    def test_on_the_lane_above_it_and_below_it(self):
        ice = Ice(SHORT, ONE)
        self.assertEqual([stands(ice, 0, 4, year) for year in range(9)], [None] * 4 + [0, 1, 2] + [None] * 2)
        self.assertEqual([stands(ice, 0, -1, year) for year in range(4)], [1, 2, None, None])
        self.assertEqual([stands(ice, 0, -3, year) for year in range(4)], [None] * 4)

    def test_a_surge_on_the_way(self):
        ice = made(BEHIND, ONE, {}, {1: {5: 3}})
        self.assertEqual([stands(ice, 1, 3, year) for year in range(11)], [None] * 3 + [0, 1, 5, 6, 7, 8, None, None])

    def test_there_and_back(self):
        for ice, lane, walk in walks():
            for year in list(range(110)) + [10 ** 9, LAST_ASKED]:
                last = ice.length(lane) - 1
                for place in range(last + 1):
                    self.assertEqual(stands(ice, lane, mark(ice, lane, place, year), year), place)
                first_mark, last_mark = mark(ice, lane, 0, year), mark(ice, lane, last, year)
                self.assertIsNone(stands(ice, lane, first_mark + 1, year))
                self.assertIsNone(stands(ice, lane, last_mark - 1, year))

    def test_against_a_plain_walk(self):
        for ice, lane, walk in walks():
            for year in range(0, YEARS, 7):
                labels = walk.labels[year]
                for label in range(labels[-1] - 40, labels[0] + 40):
                    place = labels.index(label) if label in labels else None
                    self.assertEqual(stands(ice, lane, label, year), place)

    def test_the_least_and_the_greatest_mark(self):
        ice = Ice(LONG, ONE)
        for year in (0, 50, 10 ** 9, LAST_ASKED):
            self.assertIsNone(stands(ice, 0, LEAST_MARK, year))
            self.assertIsNone(stands(ice, 0, GREATEST_MARK, year))
        self.assertEqual(stands(ice, 0, LAST_ASKED, LAST_ASKED), 0)
        self.assertEqual(stands(ice, 0, LAST_ASKED - 29, LAST_ASKED), 29)

    def test_refusals(self):
        ice = made(BEHIND, ONE, {}, {0: {5: 3}})
        for lane, label, year in itertools.product((-1, 3, FAR, -FAR), (-100, 0, 10 ** 41), (0, 5) + BAD_YEARS):
            with self.assertRaises(NoLane):
                stands(ice, lane, label, year)
        for lane, label, year in itertools.product((0, 1, 2), (-100, 0, 10 ** 41), BAD_YEARS):
            with self.assertRaises(BadYear):
                stands(ice, lane, label, year)


class SpanTest(unittest.TestCase):
    def test_without_surges(self):
        ice = Ice(SHORT, ONE)
        self.assertEqual([span(ice, 0, label) for label in range(-4, 4)],
                         [None, None, (0, 0), (0, 1), (0, 2), (1, 3), (2, 4), (3, 5)])

    def test_a_surge_in_the_year_nought(self):
        ice = made(SHORT, ONE, {}, {0: {0: 9}})
        self.assertEqual([span(ice, 0, label) for label in range(5, 12)],
                         [None, None, (0, 0), (0, 1), (0, 2), (1, 3), (2, 4)])

    def test_columns_that_a_surge_brings_on_or_takes_off(self):
        ice = made(BEHIND, ONE, {}, {1: {5: 3}})
        # In the year 4 the marks 4 to -4 are on the lane, in the year 5 the marks 8 to 0.
        self.assertEqual([span(ice, 1, label) for label in (-4, -1, 0)], [(0, 4), (0, 4), (0, 5)])
        self.assertEqual([span(ice, 1, label) for label in (4, 5, 6, 7, 8, 9)],
                         [(4, 9), (5, 10), (5, 11), (5, 12), (5, 13), (6, 14)])

    def test_marks_that_a_surge_leaps_over(self):
        ice = made(SHORT, ONE, {}, {0: {5: 9}})
        # In the year 4 the marks 4 to 2 are on the lane, in the year 5 the marks 14 to 12.
        self.assertEqual([span(ice, 0, label) for label in (3, 4, 5, 8, 11, 12, 13)],
                         [(3, 4), (4, 4), None, None, None, (5, 5), (5, 6)])

    def test_a_lane_of_one_place(self):
        ice = made(SPOT, ONE, {}, {0: {3: 1, 4: 2}})
        self.assertEqual([span(ice, 0, label) for label in range(-1, 10)],
                         [None, (0, 0), (1, 1), (2, 2), None, (3, 3), None, None, (4, 4), (5, 5), (6, 6)])

    def test_surges_year_behind_year(self):
        ice = made(LONG, ONE, {}, {0: {year: 9 for year in range(100)}})
        self.assertEqual(span(ice, 0, 0), (0, 2))
        self.assertEqual(span(ice, 0, 9), (0, 2))
        self.assertEqual(span(ice, 0, 10), (1, 3))
        self.assertEqual(span(ice, 0, 999), (99, 128))
        self.assertEqual(span(ice, 0, 1000), (100, 129))
        self.assertEqual(span(ice, 0, 989), (98, 118))

    def test_against_a_plain_walk(self):
        for ice, lane, walk in walks():
            # What stands in the last walked years may go on behind them.
            for label in range(LEAST_MARK, walk.labels[-1][-1]):
                years = [year for year, place in walk.years_of(label)]
                expected = (years[0], years[-1]) if years else None
                self.assertEqual(span(ice, lane, label), expected)

    def test_far_marks(self):
        many = sum(SURGES.values())
        for lane, length, added in ((0, 7, many), (1, 9, 0), (2, 3, 1)):
            ice = made(BEHIND, ONE, {}, {0: SURGES, 2: {99: 1}})
            for label in (10 ** 9, LAST_ASKED, GREATEST_MARK):
                self.assertEqual(span(ice, lane, label), (label - added, label - added + length - 1))

    def test_gone_off_ahead_of_the_year_nought(self):
        for reaches in (SPOT, SHORT, BEHIND, SIX, LONG, WAVES):
            ice = Ice(reaches, ONE)
            for lane in range(ice.many()):
                self.assertEqual(span(ice, lane, 1 - ice.length(lane)), (0, 0))
                for label in (-ice.length(lane), -ice.length(lane) - 1, LEAST_MARK):
                    self.assertIsNone(span(ice, lane, label))

    def test_the_column_of_each_place_and_year(self):
        for ice, lane, walk in walks():
            for year in (0, 1, 4, 5, 33, 99, 100, 10 ** 9, LAST_ASKED):
                for place in range(ice.length(lane)):
                    label = mark(ice, lane, place, year)
                    first, last = span(ice, lane, label)
                    self.assertTrue(first <= year <= last)
                    self.assertIsNotNone(stands(ice, lane, label, first))
                    self.assertTrue(first == 0 or stands(ice, lane, label, first - 1) is None)
                    if last < LAST_ASKED:
                        self.assertIsNotNone(stands(ice, lane, label, last))
                        self.assertIsNone(stands(ice, lane, label, last + 1))

    def test_no_lane(self):
        for lane, label in itertools.product((-1, 3, FAR, -FAR), (LEAST_MARK, 0, GREATEST_MARK)):
            with self.assertRaises(NoLane):
                span(Ice(BEHIND, ONE), lane, label)

    def test_kind(self):
        self.assertIs(type(span(Ice(BEHIND, ONE), 0, 5)), tuple)


class NothingIsChangedTest(unittest.TestCase):
    def test_the_ice_stays_as_it_was(self):
        ice = made(BEHIND, TWO, {5: (1, 1, 1)}, {0: SURGES})
        before = copy.deepcopy(standing(ice))
        for year in (0, 5, 100, LAST_ASKED):
            ridden(ice, 0, year)
            mark(ice, 0, 6, year)
            stands(ice, 0, 5, year)
            span(ice, 0, year)
        for ask in (lambda: ridden(ice, 3, 0), lambda: mark(ice, 0, 7, 0), lambda: stands(ice, 0, 0, -1)):
            with self.assertRaises(ValueError):
                ask()
        self.assertEqual(standing(ice), before)


if __name__ == "__main__":
    unittest.main()
