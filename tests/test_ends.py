import copy
import itertools
import unittest

from firnfall.ends import birth_of, end_of
from firnfall.errors import BadHand, BadYear, NoLane, NoPlace
from firnfall.ice import Ice
from firnfall.lives import life
from firnfall.rides import mark, span
from samples import BEHIND, FAR, LAST_ASKED, ONE, SETTLED, SHORT, SPOT, SURGES, TOLD, TWO, YEARS
from samples import made, standing, walks

BAD_YEARS = (-1, LAST_ASKED + 1, -LAST_ASKED, FAR, -FAR)
NO_HANDS = (-1, -2, -FAR, FAR, LAST_ASKED, 10)


def later_end(end, years):
    """The end of a hand, so many years later."""
    return (end[0], end[1] + years, *end[2:])


def far_years(ice):
    """Counts of years that are whole rounds."""
    many = len(ice.rows())
    return [many, 10 ** 6 * many, (LAST_ASKED - YEARS) // many * many]


class EndTest(unittest.TestCase):
    def test_snow_upon_snow_and_sun(self):
        ice = Ice(SHORT, ONE)
        self.assertEqual([end_of(ice, 0, 0, 5, layer) for layer in range(3)], [("off", 8)] * 3)
        ends = [end_of(ice, 0, 1, 6, layer) for layer in range(3)]
        self.assertEqual(ends, [("off", 8), ("melt", 7, 2, 1), ("melt", 7, 2, 0)])

    def test_hands_of_the_year_nought(self):
        ice = Ice(SHORT, ONE)
        self.assertEqual([end_of(ice, 0, 0, 0, layer) for layer in range(3)], [("off", 3)] * 3)
        ends = [end_of(ice, 0, 1, 0, layer) for layer in range(3)]
        self.assertEqual(ends, [("off", 2), ("melt", 1, 2, 1), ("melt", 1, 2, 0)])

    def test_hands_of_one_fall_that_melt_in_two_years(self):
        ice = Ice([(-1, (60, 10, 10, 10))], ONE)
        ends = [end_of(ice, 0, 0, 9, layer) for layer in range(3)]
        self.assertEqual(ends, [("melt", 11, 2, 0), ("melt", 10, 1, 1), ("melt", 10, 1, 0)])

    def test_a_hand_beneath_what_fell_later(self):
        ice = Ice([(-1, (60, 10, 60, 10, 10))], ONE)
        # Of three hands the sun takes two, three fall on the one that is left, then it takes two and two again.
        self.assertEqual([end_of(ice, 0, 0, 9, layer) for layer in (1, 2)], [("melt", 10, 1, 1), ("melt", 10, 1, 0)])
        self.assertEqual(end_of(ice, 0, 0, 9, 0), ("melt", 13, 4, 1))
        ends = [end_of(ice, 0, 2, 11, layer) for layer in range(3)]
        self.assertEqual(ends, [("melt", 13, 4, 0), ("melt", 12, 3, 1), ("melt", 12, 3, 0)])

    def test_hands_that_melt_in_the_very_next_year(self):
        ice = Ice([(-1, (60, 10))], [(50, 4, 4)])
        for year in (0, 1, 57, LAST_ASKED):
            ends = [end_of(ice, 0, 0, year, layer) for layer in range(4)]
            self.assertEqual(ends, [("melt", year + 1, 1, turn) for turn in (3, 2, 1, 0)])

    def test_hands_of_the_last_place_go_off_in_the_next_year(self):
        for year in (0, 1, 57, LAST_ASKED):
            self.assertEqual(end_of(Ice(SPOT, [(40, 9, 0)]), 0, 0, year, 8), ("off", year + 1))

    def test_a_surge_takes_hands_off(self):
        ice = made([(-1, (90, 80, 70, 60, 20, 10))], ONE, {}, {0: {5: 2, 6: 9}})
        self.assertEqual(end_of(ice, 0, 3, 4, 0), ("off", 5))
        self.assertEqual(end_of(ice, 0, 2, 4, 2), ("melt", 5, 5, 0))
        self.assertEqual(end_of(ice, 0, 2, 4, 0), ("off", 6))
        self.assertEqual(end_of(ice, 0, 0, 4, 0), ("off", 6))

    def test_each_hand_against_a_plain_walk(self):
        for ice, lane, walk in walks():
            for (year, place, layer), end in walk.ends.items():
                self.assertEqual(end_of(ice, lane, place, year, layer), end)

    def test_each_place_of_each_year_has_the_hands_of_its_fall_alone(self):
        for ice, lane, walk in walks():
            for year, place in itertools.product(range(0, YEARS, 3), range(ice.length(lane))):
                fell = walk.changes[year][place]
                if fell > 0:
                    end_of(ice, lane, place, year, fell - 1)
                with self.assertRaises(BadHand):
                    end_of(ice, lane, place, year, max(fell, 0))

    def test_the_same_many_whole_rounds_later(self):
        for ice, lane, walk in walks():
            for years in far_years(ice):
                for (year, place, layer), end in walk.ends.items():
                    if SETTLED <= year < SETTLED + len(ice.rows()) and layer in (0, 3):
                        told = end_of(ice, lane, place, year + years, layer)
                        self.assertEqual(told, later_end(end, years))

    def test_hands_of_the_last_year_end_later(self):
        ice = made(SHORT, ONE, TOLD, {0: SURGES})
        self.assertEqual(end_of(ice, 0, 0, LAST_ASKED, 0), ("off", LAST_ASKED + 3))
        self.assertEqual(end_of(ice, 0, 1, LAST_ASKED, 0), ("off", LAST_ASKED + 2))
        self.assertEqual(end_of(ice, 0, 1, LAST_ASKED, 2), ("melt", LAST_ASKED + 1, 2, 0))

    def test_later_hands_of_a_column_end_ahead_of_elder_ones(self):
        for ice, lane, walk in walks():
            columns = {}
            for (year, place, layer), end in walk.ends.items():
                columns.setdefault(walk.labels[year][place], []).append((year, layer, place))
            for hands in columns.values():
                ends = [(year, end_of(ice, lane, place, year, layer)) for year, layer, place in sorted(hands)]
                for (year, elder), (fell, later) in itertools.pairwise(ends):
                    together = elder[0] == later[0] == "off" and elder == later
                    self.assertTrue(elder[1] < fell or together or self.moment(later) < self.moment(elder))

    def moment(self, end):
        """The year of an end and its turn; what goes off goes ahead of the weather."""
        return (end[1], end[3] if end[0] == "melt" else -1)

    def test_told_weather_and_plain_again(self):
        ice = made(SHORT, ONE, {7: (100, 0, 5)})
        self.assertEqual(end_of(ice, 0, 0, 5, 2), ("melt", 7, 2, 3))
        ice.plain(7)
        self.assertEqual(end_of(ice, 0, 0, 5, 2), ("off", 8))

    def test_kinds(self):
        ice = Ice(SHORT, ONE)
        self.assertIs(type(end_of(ice, 0, 0, 5, 0)), tuple)
        self.assertIs(type(end_of(ice, 0, 1, 6, 2)), tuple)
        self.assertEqual([type(part) for part in end_of(ice, 0, 1, 6, 2)], [str, int, int, int])


class BirthTest(unittest.TestCase):
    def test_snow_upon_snow_and_sun(self):
        ice = Ice(SHORT, ONE)
        self.assertEqual([birth_of(ice, 0, 2, 7, turn) for turn in (0, 1)], [(6, 1, 2), (6, 1, 1)])

    def test_hands_of_two_falls_taken_in_one_year(self):
        ice = Ice(SHORT, [(50, 3, 5)])
        births = [birth_of(ice, 0, 2, 7, turn) for turn in range(5)]
        self.assertEqual(births, [(6, 1, 2), (6, 1, 1), (6, 1, 0), (5, 0, 2), (5, 0, 1)])

    def test_elder_hands_behind_a_later_fall_that_melted(self):
        ice = Ice([(-1, (60, 10, 60, 10, 10))], ONE)
        self.assertEqual([birth_of(ice, 0, 3, 12, turn) for turn in (0, 1)], [(11, 2, 2), (11, 2, 1)])
        ice.turn([(50, 2, 1), (50, 2, 1), (50, 2, 1), (50, 1, 1), (50, 1, 5)])
        births = [birth_of(ice, 0, 3, 9, turn) for turn in range(2)]
        self.assertEqual(births, [(8, 2, 0), (6, 0, 0)])

    def test_hands_of_the_year_nought(self):
        self.assertEqual([birth_of(Ice(SHORT, ONE), 0, 2, 1, turn) for turn in (0, 1)], [(0, 1, 2), (0, 1, 1)])

    def test_each_hand_that_the_sun_takes_against_a_plain_walk(self):
        for ice, lane, walk in walks():
            for hand, end in walk.ends.items():
                if end[0] == "melt":
                    self.assertEqual(birth_of(ice, lane, end[2], end[1], end[3]), hand)

    def test_each_place_of_each_year_has_the_hands_that_the_sun_takes_alone(self):
        for ice, lane, walk in walks():
            for year, place in itertools.product(range(1, YEARS, 3), range(ice.length(lane))):
                took = -walk.changes[year][place]
                if took > 0:
                    birth_of(ice, lane, place, year, took - 1)
                with self.assertRaises(BadHand):
                    birth_of(ice, lane, place, year, max(took, 0))

    def test_the_same_many_whole_rounds_later(self):
        for ice, lane, walk in walks():
            for years in far_years(ice):
                for (year, place, layer), end in walk.ends.items():
                    if end[0] == "melt" and end[3] in (0, 2) and YEARS - 12 <= end[1]:
                        told = birth_of(ice, lane, end[2], end[1] + years, end[3])
                        self.assertEqual(told, (year + years, place, layer))

    def test_the_last_year(self):
        ice = made(SHORT, ONE, TOLD, {0: SURGES})
        self.assertEqual(birth_of(ice, 0, 2, LAST_ASKED, 1), (LAST_ASKED - 1, 1, 1))

    def test_kinds(self):
        told = birth_of(Ice(SHORT, ONE), 0, 2, 7, 0)
        self.assertIs(type(told), tuple)
        self.assertEqual([type(part) for part in told], [int, int, int])


class ThereAndBackTest(unittest.TestCase):
    def test_the_birth_of_each_end(self):
        for ice, lane, walk in walks():
            for year in (0, 3, 30, 97, 101, LAST_ASKED - 40):
                for place in range(ice.length(lane)):
                    self.check(ice, lane, place, year)

    def check(self, ice, lane, place, year):
        label = mark(ice, lane, place, year)
        fell = [moved for when, where, moved, lying in life(ice, lane, label) if when == year][0]
        for layer in range(fell):
            end = end_of(ice, lane, place, year, layer)
            if end[0] == "melt":
                self.assertEqual(birth_of(ice, lane, end[2], end[1], end[3]), (year, place, layer))
            else:
                self.assertEqual(end, ("off", span(ice, lane, label)[1] + 1))


class RefusalTest(unittest.TestCase):
    def test_layers_that_are_none(self):
        ice = made(SHORT, ONE, {8: (0, 9, 0)})
        for layer in NO_HANDS + (3, 4):
            for place, year in ((0, 0), (0, 7), (1, 7), (1, LAST_ASKED)):
                with self.assertRaises(BadHand):
                    end_of(ice, 0, place, year, layer)
        self.assertEqual(end_of(ice, 0, 1, 8, 8), ("melt", 9, 2, 0))
        with self.assertRaises(BadHand):
            end_of(ice, 0, 1, 8, 9)

    def test_turns_that_are_none(self):
        ice = Ice(SHORT, ONE)
        for turn in NO_HANDS + (2, 3):
            for year in (1, 2, 7, LAST_ASKED):
                with self.assertRaises(BadHand):
                    birth_of(ice, 0, 2, year, turn)

    def test_a_turn_of_the_sun_for_which_no_hand_is_left(self):
        ice = Ice([(-1, (60, 10, 10))], [(50, 3, 2)])
        self.assertEqual(birth_of(ice, 0, 2, 9, 0), (7, 0, 0))
        with self.assertRaises(BadHand):
            birth_of(ice, 0, 2, 9, 1)

    def test_places_where_nothing_falls_or_melts(self):
        ice = made(SHORT, ONE, {8: (0, 0, 9), 9: (100, 9, 0)})
        for hand, (place, year) in itertools.product(NO_HANDS + (0, 1, 2), ((2, 0), (2, 7), (1, 8), (0, 9), (2, 9))):
            with self.assertRaises(BadHand):
                end_of(ice, 0, place, year, hand)
        for hand, (place, year) in itertools.product(NO_HANDS + (0, 1, 2), ((0, 7), (1, 7), (2, 0), (2, 8), (2, 9))):
            with self.assertRaises(BadHand):
                birth_of(ice, 0, place, year, hand)

    def test_the_order_of_the_refusals(self):
        ice = made(BEHIND, ONE, {}, {0: {5: 3}})
        hands = (0,) + NO_HANDS
        for ask in (end_of, birth_of):
            for lane, place, year, hand in itertools.product((-1, 3, FAR, -FAR), (0, -1, 9, FAR), (3,) + BAD_YEARS, hands):
                self.refused(NoLane, ask, ice, lane, place, year, hand)
            for place, year, hand in itertools.product((-1, 7, 9, FAR, -FAR), (3,) + BAD_YEARS, hands):
                self.refused(NoPlace, ask, ice, 0, place, year, hand)
            for lane, place, year, hand in itertools.product((0, 1, 2), (0, 2), BAD_YEARS, hands):
                self.refused(BadYear, ask, ice, lane, place, year, hand)
            for place, year, hand in itertools.product(range(7), (0, 3, 5, LAST_ASKED), NO_HANDS):
                self.refused(BadHand, ask, ice, 0, place, year, hand)

    def refused(self, refusal, ask, *things):
        with self.assertRaises(refusal):
            ask(*things)


class NothingIsChangedTest(unittest.TestCase):
    def test_the_ice_stays_as_it_was(self):
        ice = made(BEHIND, TWO, TOLD, {0: SURGES})
        before = copy.deepcopy(standing(ice))
        for place, year, hand in itertools.product(range(7), (0, 5, 100, LAST_ASKED), (-1, 0, 1)):
            for ask in (end_of, birth_of):
                try:
                    ask(ice, 0, place, year, hand)
                except BadHand:
                    pass
        self.assertEqual(standing(ice), before)


if __name__ == "__main__":
    unittest.main()
