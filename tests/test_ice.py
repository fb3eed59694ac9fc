import copy
import itertools
import unittest

from firnfall.errors import (
    BadRound, BadSurge, BadValley, BadWeather, BadYear, FirnError, NoLane, NoPlace, NotTold,
)
from firnfall.ice import Ice
from firnfall.valley import heights, lanes
from samples import BEHIND, FAR, FIVE, LAST_ASKED, LONG, ONE, SHORT, SIX, SPOT, SURGES, TOLD, TWELVE, TWO, WAVES
from samples import made, samples, standing

NO_VALLEYS = [[], [(0, (50,))], [(-1, ())], [(-1, (100,))], [(-1, (50,)), (1, (50,))], [(-1, (1,))] * 9,
              [(-1, (1,))] + [(0, (2,))] * 7, [(-1, (5,) * 12), (0, (5,) * 12), (1, (5,) * 7)]]
NO_ROUNDS = [[], [(50, 3, 2)] * 13, [(101, 3, 2)], [(-1, 3, 2)], [(50, 10, 2)], [(50, 3, 10)],
             [(50, 3, 2), (50, -1, 2)], [(50, 3, 2), (50, 3, -1)]]


class MadeTest(unittest.TestCase):
    def test_no_valley(self):
        for reaches in NO_VALLEYS:
            with self.subTest(reaches=reaches), self.assertRaises(BadValley):
                Ice(reaches, ONE)

    def test_no_round(self):
        for rows in NO_ROUNDS:
            with self.subTest(rows=rows), self.assertRaises(BadRound):
                Ice(BEHIND, rows)

    def test_neither_of_both(self):
        for reaches, rows in itertools.product(NO_VALLEYS, NO_ROUNDS):
            with self.assertRaises(BadValley):
                Ice(reaches, rows)

    def test_what_was_handed_in_is_told(self):
        for reaches, rows in itertools.product((SPOT, SHORT, BEHIND, SIX, LONG, WAVES), (ONE, TWO, FIVE, TWELVE)):
            ice = Ice(reaches, rows)
            self.assertEqual(ice.reaches(), reaches)
            self.assertEqual(ice.rows(), rows)
            self.assertEqual(ice.told(), [])
            self.assertEqual([ice.surges(lane) for lane in range(ice.many())], [[]] * ice.many())

    def test_lanes_lengths_and_heights(self):
        ice = Ice(BEHIND, ONE)
        self.assertEqual(ice.many(), 3)
        self.assertEqual([ice.length(lane) for lane in range(3)], [7, 9, 3])
        self.assertEqual([ice.height(1, place) for place in range(9)], [90, 80, 70, 60, 20, 15, 10, 5, 4])
        self.assertEqual([ice.height(2, place) for place in range(3)], [30, 5, 4])

    def test_lanes_lengths_and_heights_of_every_valley(self):
        for reaches in (SPOT, SHORT, BEHIND, SIX, LONG, WAVES):
            ice = Ice(reaches, ONE)
            self.assertEqual(ice.many(), len(lanes(reaches)))
            for lane in range(ice.many()):
                slope = heights(reaches, lane)
                self.assertEqual(ice.length(lane), len(slope))
                self.assertEqual([ice.height(lane, place) for place in range(len(slope))], slope)

    def test_the_least_and_the_greatest_valley(self):
        self.assertEqual([Ice(SPOT, ONE).many(), Ice(SPOT, ONE).length(0)], [1, 1])
        self.assertEqual([Ice(LONG, ONE).many(), Ice(LONG, ONE).length(0)], [1, 30])
        self.assertEqual(Ice(SIX, ONE).many(), 6)

    def test_no_lane(self):
        for reaches in (SPOT, BEHIND, SIX):
            ice = Ice(reaches, ONE)
            for lane in (-1, -ice.many(), ice.many(), ice.many() + 1, FAR, -FAR):
                with self.assertRaises(NoLane):
                    ice.length(lane)
                with self.assertRaises(NoLane):
                    ice.surges(lane)
                for place in (0, -1, 30, FAR):
                    with self.assertRaises(NoLane):
                        ice.height(lane, place)

    def test_no_place(self):
        for reaches in (SPOT, BEHIND, SIX):
            ice = Ice(reaches, ONE)
            for lane in range(ice.many()):
                many = ice.length(lane)
                for place in (-1, -many, many, many + 1, FAR, -FAR):
                    with self.assertRaises(NoPlace):
                        ice.height(lane, place)

    def test_kinds(self):
        ice = made(BEHIND, TWO, TOLD, {0: SURGES})
        for told in (ice.reaches(), ice.rows(), ice.told(), ice.surges(0)):
            self.assertIs(type(told), list)
            self.assertEqual({type(row) for row in told}, {tuple})
        self.assertEqual({type(row) for year, row in ice.told()}, {tuple})
        self.assertEqual({type(slope) for to, slope in ice.reaches()}, {tuple})
        self.assertIs(type(ice.weather(3)), tuple)


class NothingIsKeptTest(unittest.TestCase):
    def test_lists_that_were_handed_in_are_changed(self):
        reaches, rows = list(BEHIND), list(TWO)
        ice = Ice(reaches, rows)
        before = copy.deepcopy(standing(ice))
        reaches[0] = (-1, (77,))
        reaches.append((0, (3,)))
        rows[0] = (1, 1, 1)
        rows.append((2, 2, 2))
        self.assertEqual(standing(ice), before)
        reaches.clear()
        rows.clear()
        self.assertEqual(standing(ice), before)

    def test_the_list_that_was_handed_to_turn_is_changed(self):
        ice, rows = Ice(BEHIND, TWO), list(FIVE)
        ice.turn(rows)
        before = copy.deepcopy(standing(ice))
        rows[0] = (1, 1, 1)
        self.assertEqual(standing(ice), before)
        rows.clear()
        self.assertEqual(standing(ice), before)

    def test_told_lists_are_changed(self):
        ice = made(BEHIND, TWO, TOLD, {0: SURGES, 2: {5: 5}})
        before = copy.deepcopy(standing(ice))
        for ask in (ice.reaches, ice.rows, ice.told, lambda: ice.surges(0), lambda: ice.surges(2)):
            ask()[0] = "other"
            ask().append("more")
            ask().clear()
            self.assertEqual(standing(ice), before)

    def test_what_is_handed_in_stays_as_it_was(self):
        reaches, rows, other = copy.deepcopy(BEHIND), copy.deepcopy(TWO), copy.deepcopy(FIVE)
        ice = Ice(reaches, rows)
        ice.turn(other)
        ice.tell(3, (1, 2, 3))
        ice.surge(1, 4, 5)
        self.assertEqual([reaches, rows, other], [BEHIND, TWO, FIVE])

    def test_two_of_the_same_lists(self):
        one, other = Ice(BEHIND, TWO), Ice(BEHIND, TWO)
        before = copy.deepcopy(standing(other))
        one.turn(FIVE)
        one.tell(5, (1, 1, 1))
        one.surge(0, 5, 5)
        self.assertEqual(standing(other), before)


class TellTest(unittest.TestCase):
    def test_told_and_told_anew(self):
        ice = Ice(BEHIND, TWO)
        self.assertIsNone(ice.tell(5, (10, 2, 3)))
        self.assertEqual(ice.told(), [(5, (10, 2, 3))])
        self.assertIsNone(ice.tell(5, (20, 4, 5)))
        self.assertEqual(ice.told(), [(5, (20, 4, 5))])

    def test_the_row_of_the_round_told_is_told_too(self):
        ice = Ice(BEHIND, TWO)
        ice.tell(4, TWO[0])
        self.assertEqual(ice.told(), [(4, TWO[0])])

    def test_taken_away(self):
        ice = made(BEHIND, TWO, {5: (10, 2, 3), 6: (11, 2, 3)})
        self.assertIsNone(ice.plain(5))
        self.assertEqual(ice.told(), [(6, (11, 2, 3))])
        ice.tell(5, (12, 2, 3))
        ice.plain(6)
        self.assertEqual(ice.told(), [(5, (12, 2, 3))])

    def test_every_year_that_may_be_told(self):
        ice = Ice(SPOT, ONE)
        for year in range(100):
            ice.tell(year, (year, 1, 2))
        self.assertEqual(ice.told(), [(year, (year, 1, 2)) for year in range(100)])
        for year in range(100):
            ice.plain(year)
        self.assertEqual(ice.told(), [])

    def test_rising_whatever_the_order(self):
        rows = {year: (year, 1, 2) for year in (99, 3, 50, 0, 7)}
        for years in itertools.permutations(rows):
            ice = made(SPOT, ONE, {year: rows[year] for year in years})
            self.assertEqual(ice.told(), sorted(rows.items()))

    def test_bad_years(self):
        ice = made(BEHIND, TWO, TOLD)
        before = copy.deepcopy(standing(ice))
        for year in (-1, 100, -100, 1000, LAST_ASKED, FAR, -FAR):
            with self.assertRaises(BadYear):
                ice.tell(year, (10, 2, 3))
            with self.assertRaises(BadYear):
                ice.tell(year, (101, 2, 3))
            with self.assertRaises(BadYear):
                ice.plain(year)
            self.assertEqual(standing(ice), before)

    def test_bad_weather(self):
        ice = made(BEHIND, TWO, {5: (10, 2, 3)})
        before = copy.deepcopy(standing(ice))
        for row in [(-1, 5, 5), (101, 5, 5), (50, -1, 5), (50, 10, 5), (50, 5, -1), (50, 5, 10), (FAR, FAR, FAR)]:
            for year in (0, 5, 99):
                with self.assertRaises(BadWeather):
                    ice.tell(year, row)
            self.assertEqual(standing(ice), before)

    def test_the_bounds_of_weather(self):
        ice = Ice(SPOT, ONE)
        for row in [(0, 0, 0), (100, 9, 9), (0, 9, 0), (100, 0, 9)]:
            ice.tell(7, row)
            self.assertEqual(ice.told(), [(7, row)])

    def test_not_told(self):
        ice = made(BEHIND, TWO, {5: (10, 2, 3)}, {0: {6: 1}})
        before = copy.deepcopy(standing(ice))
        for year in (0, 4, 6, 99):
            with self.assertRaises(NotTold):
                ice.plain(year)
            self.assertEqual(standing(ice), before)
        ice.plain(5)
        with self.assertRaises(NotTold):
            ice.plain(5)


class SurgeTest(unittest.TestCase):
    def test_told_and_told_anew(self):
        ice = Ice(BEHIND, TWO)
        self.assertIsNone(ice.surge(1, 5, 3))
        self.assertEqual([ice.surges(lane) for lane in range(3)], [[], [(5, 3)], []])
        self.assertIsNone(ice.surge(1, 5, 4))
        self.assertEqual([ice.surges(lane) for lane in range(3)], [[], [(5, 4)], []])

    def test_taken_away(self):
        ice = made(BEHIND, TWO, {}, {0: {5: 1, 6: 2}, 1: {5: 3}})
        self.assertIsNone(ice.calm(0, 5))
        self.assertEqual([ice.surges(lane) for lane in range(3)], [[(6, 2)], [(5, 3)], []])
        ice.calm(1, 5)
        ice.surge(0, 5, 9)
        self.assertEqual([ice.surges(lane) for lane in range(3)], [[(5, 9), (6, 2)], [], []])

    def test_every_year_that_may_be_told_and_every_surge(self):
        ice = Ice(SPOT, ONE)
        for year in range(100):
            ice.surge(0, year, year % 9 + 1)
        self.assertEqual(ice.surges(0), [(year, year % 9 + 1) for year in range(100)])
        for year in range(100):
            ice.calm(0, year)
        self.assertEqual(ice.surges(0), [])

    def test_rising_whatever_the_order(self):
        for years in itertools.permutations((99, 3, 50, 0, 7)):
            ice = made(SPOT, ONE, {}, {0: {year: year % 9 + 1 for year in years}})
            self.assertEqual(ice.surges(0), [(0, 1), (3, 4), (7, 8), (50, 6), (99, 1)])

    def test_bad_surges(self):
        ice = made(BEHIND, TWO, {}, {0: {5: 1}})
        before = copy.deepcopy(standing(ice))
        for many in (0, 10, -1, 100, FAR, -FAR):
            for year in (0, 5, 99):
                with self.assertRaises(BadSurge):
                    ice.surge(0, year, many)
            self.assertEqual(standing(ice), before)
        for many in (1, 9):
            ice.surge(0, 5, many)
            self.assertEqual(ice.surges(0), [(5, many)])

    def test_the_order_of_the_refusals(self):
        ice = made(BEHIND, TWO, {}, {0: {5: 1}})
        before = copy.deepcopy(standing(ice))
        for lane, year, many in itertools.product((0, -1, 3, FAR), (5, -1, 100, -FAR), (4, 0, 10, FAR)):
            if lane != 0:
                refusal = NoLane
            elif year != 5:
                refusal = BadYear
            elif many != 4:
                refusal = BadSurge
            else:
                continue
            with self.assertRaises(refusal):
                ice.surge(lane, year, many)
            self.assertEqual(standing(ice), before)

    def test_the_order_of_the_refusals_of_calm(self):
        ice = made(BEHIND, TWO, {6: (1, 1, 1)}, {0: {5: 1}})
        before = copy.deepcopy(standing(ice))
        for lane, year in itertools.product((-1, 3, FAR), (5, 6, -1, 100)):
            with self.assertRaises(NoLane):
                ice.calm(lane, year)
        for lane, year in itertools.product((0, 1, 2), (-1, 100, FAR)):
            with self.assertRaises(BadYear):
                ice.calm(lane, year)
        for lane, year in [(0, 0), (0, 4), (0, 6), (0, 99), (1, 5), (2, 5)]:
            with self.assertRaises(NotTold):
                ice.calm(lane, year)
        self.assertEqual(standing(ice), before)
        ice.calm(0, 5)
        with self.assertRaises(NotTold):
            ice.calm(0, 5)


class TurnTest(unittest.TestCase):
    def test_another_round(self):
        ice = made(BEHIND, TWO, TOLD, {0: SURGES})
        self.assertIsNone(ice.turn(FIVE))
        self.assertEqual(ice.rows(), FIVE)
        self.assertEqual(standing(ice), standing(made(BEHIND, FIVE, TOLD, {0: SURGES})))
        ice.turn(TWELVE)
        self.assertEqual(standing(ice), standing(made(BEHIND, TWELVE, TOLD, {0: SURGES})))

    def test_no_round(self):
        ice = made(BEHIND, TWO, TOLD, {0: SURGES})
        before = copy.deepcopy(standing(ice))
        for rows in NO_ROUNDS:
            with self.assertRaises(BadRound):
                ice.turn(rows)
            self.assertEqual(standing(ice), before)


class WeatherTest(unittest.TestCase):
    def test_the_rows_of_the_round(self):
        for rows in (ONE, TWO, FIVE, TWELVE):
            ice = Ice(SPOT, rows)
            for year in range(300):
                self.assertEqual(ice.weather(year), rows[year % len(rows)])

    def test_told_years_and_years_beside_them(self):
        for rows in (ONE, TWO, FIVE, TWELVE):
            ice = made(SPOT, rows, TOLD)
            for year in range(300):
                self.assertEqual(ice.weather(year), TOLD[year] if year in TOLD else rows[year % len(rows)])

    def test_the_same_years_many_rounds_later(self):
        for rows in (ONE, TWO, FIVE, TWELVE):
            ice = made(SPOT, rows, TOLD)
            for year in range(100):
                for rounds in (100, 12345, 10 ** 38):
                    self.assertEqual(ice.weather(year + rounds * len(rows)), rows[year % len(rows)])

    def test_the_last_year(self):
        for rows in (ONE, TWO, FIVE, TWELVE):
            self.assertEqual(Ice(SPOT, rows).weather(LAST_ASKED), rows[LAST_ASKED % len(rows)])
        self.assertEqual(Ice(SPOT, TWELVE).weather(LAST_ASKED), TWELVE[4])

    def test_bad_years(self):
        ice = made(SPOT, TWO, TOLD)
        for year in (-1, LAST_ASKED + 1, -LAST_ASKED, FAR, -FAR):
            with self.assertRaises(BadYear):
                ice.weather(year)

    def test_behind_deeds(self):
        ice = Ice(SPOT, TWO)
        ice.tell(0, (1, 1, 1))
        self.assertEqual([ice.weather(year) for year in range(3)], [(1, 1, 1), TWO[1], TWO[0]])
        ice.turn(FIVE)
        self.assertEqual([ice.weather(year) for year in range(6)], [(1, 1, 1)] + FIVE[1:] + FIVE[:1])
        ice.tell(0, (2, 2, 2))
        self.assertEqual(ice.weather(0), (2, 2, 2))
        ice.plain(0)
        self.assertEqual([ice.weather(year) for year in range(5)], FIVE)
        ice.turn(ONE)
        self.assertEqual([ice.weather(year) for year in range(5)], ONE * 5)


class TwinTest(unittest.TestCase):
    def test_twins_stand_alike(self):
        for ice, told, surges in samples():
            twin = ice.twin()
            self.assertIs(type(twin), Ice)
            self.assertEqual(standing(twin), standing(ice))
            self.assertEqual(standing(twin.twin()), standing(ice))

    def test_each_goes_its_own_way(self):
        deeds = [
            lambda ice: ice.tell(7, (1, 1, 1)), lambda ice: ice.tell(6, (1, 1, 1)), lambda ice: ice.plain(7),
            lambda ice: ice.surge(0, 3, 8), lambda ice: ice.surge(0, 2, 8), lambda ice: ice.surge(1, 2, 8),
            lambda ice: ice.calm(0, 3), lambda ice: ice.turn(FIVE),
        ]
        for deed in deeds:
            ice = made(BEHIND, TWO, TOLD, {0: SURGES})
            family = [ice, ice.twin(), ice.twin().twin(), ice.twin()]
            before = copy.deepcopy(standing(ice))
            for number, one in enumerate(family):
                deed(one)
                self.assertNotEqual(standing(one), before)
                for other in family[number + 1:]:
                    self.assertEqual(standing(other), before)

    def test_a_twin_of_what_was_turned(self):
        ice = made(BEHIND, TWO, TOLD, {0: SURGES})
        ice.turn(FIVE)
        ice.plain(7)
        ice.calm(0, 3)
        self.assertEqual(standing(ice.twin()), standing(ice))

    def test_a_twin_outlives_changes_of_its_model(self):
        ice = made(BEHIND, TWO, TOLD, {0: SURGES})
        twin, before = ice.twin(), copy.deepcopy(standing(ice))
        ice.turn(FIVE)
        for year, row in ice.told():
            ice.plain(year)
        for year, many in ice.surges(0):
            ice.calm(0, year)
        self.assertEqual(standing(twin), before)


class OrderOfDeedsTest(unittest.TestCase):
    def test_what_is_told_hangs_on_what_is_kept_alone(self):
        one, other = Ice(BEHIND, TWO), Ice(BEHIND, TWO)
        one.tell(3, (1, 1, 1))
        one.surge(0, 4, 2)
        one.tell(1, (2, 2, 2))
        one.surge(0, 2, 3)
        other.surge(0, 2, 9)
        other.surge(0, 3, 9)
        other.tell(1, (2, 2, 2))
        other.tell(3, (9, 9, 9))
        other.surge(0, 4, 2)
        other.calm(0, 3)
        other.surge(0, 2, 3)
        other.tell(3, (1, 1, 1))
        self.assertEqual(standing(one), standing(other))

    def test_refusals_are_of_the_program(self):
        for refusal in (BadRound, BadSurge, BadValley, BadWeather, BadYear, NoLane, NoPlace, NotTold):
            self.assertTrue(issubclass(refusal, FirnError))


if __name__ == "__main__":
    unittest.main()
