import copy
import itertools
import unittest

from firnfall.errors import BadYear, NoLane, NoPlace
from firnfall.ice import Ice
from firnfall.lives import pile
from firnfall.piles import depth
from firnfall.rides import mark, span, stands
from firnfall.stones import hidden, rest, way
from samples import BEHIND, FAR, LAST_ASKED, LONG, ONE, SETTLED, SHORT, SPOT, SURGES, TOLD, TWO, WAVES, YEARS
from samples import later_rows, made, standing, walks

BAD_YEARS = (-1, LAST_ASKED + 1, -LAST_ASKED, FAR, -FAR)
# Snow, snow, sun, snow, sun, sun: (50, 3, 4) leaves a column of these heights bare behind its last but one place.
UNEVEN = [(-1, (60, 60, 10, 60, 10, 10, 60))]


def stretches(years):
    """The pairs of the first and the last year of each stretch of rising years."""
    return [(year, min(last for last in years if last >= year and last + 1 not in years))
            for year in years if year - 1 not in years]


class WayTest(unittest.TestCase):
    def test_a_stone_that_is_snowed_upon_and_melted_free(self):
        ice = Ice(SHORT, ONE)
        self.assertEqual(way(ice, 0, 0, 5), [(5, 0, 0, 3), (6, 1, 3, 3), (7, 2, 1, 3)])
        self.assertEqual(way(ice, 0, 1, 6), [(6, 1, 0, 6), (7, 2, 0, 4)])
        self.assertEqual(way(ice, 0, 2, 7), [(7, 2, 0, 4)])

    def test_a_stone_that_comes_to_light_and_is_left(self):
        ice = Ice(UNEVEN, [(50, 3, 4)])
        rows = [(9, 0, 0, 3), (10, 1, 3, 3), (11, 2, 0, 2), (12, 3, 3, 2), (13, 4, 0, 1), (14, 5, 0, 0)]
        self.assertEqual(way(ice, 0, 0, 9), rows)

    def test_a_stone_on_a_bare_column(self):
        ice = Ice(UNEVEN, [(50, 3, 4)])
        self.assertEqual(way(ice, 0, 5, 14), [(14, 5, 0, 0)])
        self.assertEqual(way(ice, 0, 4, 0), [(0, 4, 0, 0)])

    def test_a_stone_that_falls_as_the_column_has_snow_again(self):
        self.assertEqual(way(Ice(UNEVEN, [(50, 3, 4)]), 0, 6, 15), [(15, 6, 0, 3)])

    def test_a_surge_on_the_way(self):
        ice = made([(-1, (90, 80, 70, 60, 20, 10))], ONE, {}, {0: {5: 2}})
        self.assertEqual(way(ice, 0, 0, 3), [(3, 0, 0, 3), (4, 1, 3, 3), (5, 4, 1, 3), (6, 5, 0, 2)])
        self.assertEqual(way(ice, 0, 3, 4), [(4, 3, 0, 12)])

    def test_a_stone_of_the_surge_year_falls_behind_the_ride(self):
        ice = made([(-1, (90, 80, 70, 60, 20, 10))], ONE, {}, {0: {5: 2}})
        self.assertEqual(way(ice, 0, 4, 5), [(5, 4, 0, 4), (6, 5, 0, 2)])

    def test_stones_against_a_plain_walk(self):
        for ice, lane, walk in walks():
            for year, place in itertools.product(range(110), range(ice.length(lane))):
                self.assertEqual(way(ice, lane, place, year), walk.stone(place, year)[0])

    def test_the_same_many_whole_rounds_later(self):
        for ice, lane, walk in walks():
            for number, place in itertools.product(range(len(ice.rows())), range(0, ice.length(lane), 3)):
                near = walk.stone(place, SETTLED + number)[0]
                for rounds in (1, 54321, 10 ** 38):
                    later = rounds * len(ice.rows())
                    self.assertEqual(way(ice, lane, place, SETTLED + number + later), later_rows(near, later))

    def test_a_stone_of_the_last_year_rides_on_behind_it(self):
        ice = made(SHORT, ONE, TOLD, {0: SURGES})
        rows = [(LAST_ASKED, 0, 0, 3), (LAST_ASKED + 1, 1, 3, 3), (LAST_ASKED + 2, 2, 1, 3)]
        self.assertEqual(way(ice, 0, 0, LAST_ASKED), rows)

    def test_what_is_above_and_beneath_is_the_pile(self):
        for ice, lane, walk in walks()[::3]:
            for place, year in itertools.product(range(ice.length(lane)), (0, 33, 98, LAST_ASKED - 60)):
                label = mark(ice, lane, place, year)
                for when, where, above, beneath in way(ice, lane, place, year):
                    self.assertEqual(stands(ice, lane, label, when), where)
                    self.assertEqual(depth(pile(ice, lane, where, when)), above + beneath)

    def test_told_lists_are_new_ones(self):
        ice = Ice(SHORT, ONE)
        told = way(ice, 0, 0, 5)
        before = list(told)
        told[0] = "other"
        told.clear()
        self.assertEqual(way(ice, 0, 0, 5), before)

    def test_kinds(self):
        told = way(Ice(SHORT, ONE), 0, 0, 5)
        self.assertIs(type(told), list)
        self.assertEqual({type(row) for row in told}, {tuple})


class RestTest(unittest.TestCase):
    def test_off_at_the_end(self):
        ice = Ice(SHORT, ONE)
        self.assertEqual([rest(ice, 0, place, 7) for place in range(3)], [("off", 10), ("off", 9), ("off", 8)])

    def test_left_later(self):
        ice = Ice(UNEVEN, [(50, 3, 4)])
        self.assertEqual([rest(ice, 0, place, 9 + place) for place in range(6)], [("left", 14, 5)] * 6)
        self.assertEqual(rest(ice, 0, 6, 15), ("off", 16))

    def test_left_in_the_year_of_its_fall(self):
        for year in (0, 1, 57, LAST_ASKED):
            self.assertEqual(rest(Ice(SPOT, ONE), 0, 0, year), ("left", year, 0))
        self.assertEqual(rest(Ice(SHORT, ONE), 0, 2, 0), ("left", 0, 2))

    def test_left_on_the_last_place(self):
        ice = Ice([(-1, (60, 10))], [(50, 3, 3)])
        self.assertEqual(rest(ice, 0, 0, 5), ("left", 6, 1))

    def test_a_column_that_was_bare_and_snowed_upon_takes_no_left_stone_along(self):
        ice = Ice([(-1, (60, 10, 60))], [(50, 3, 3)])
        self.assertEqual(rest(ice, 0, 0, 5), ("left", 6, 1))
        self.assertEqual(rest(ice, 0, 2, 7), ("off", 8))

    def test_stones_against_a_plain_walk(self):
        for ice, lane, walk in walks():
            for year, place in itertools.product(range(YEARS - 30), range(ice.length(lane))):
                self.assertEqual(rest(ice, lane, place, year), walk.stone(place, year)[1])

    def test_it_goes_off_with_its_column(self):
        for ice, lane, walk in walks():
            for place, year in itertools.product(range(ice.length(lane)), (0, 40, 99, LAST_ASKED)):
                told = rest(ice, lane, place, year)
                if told[0] == "off":
                    self.assertEqual(told, ("off", span(ice, lane, mark(ice, lane, place, year))[1] + 1))

    def test_the_same_many_whole_rounds_later(self):
        for ice, lane, walk in walks():
            for number, place in itertools.product(range(len(ice.rows())), range(0, ice.length(lane), 3)):
                near = walk.stone(place, SETTLED + number)[1]
                for rounds in (1, 54321, 10 ** 38):
                    later = rounds * len(ice.rows())
                    told = rest(ice, lane, place, SETTLED + number + later)
                    self.assertEqual(told, (near[0], near[1] + later, *near[2:]))

    def test_kinds(self):
        self.assertIs(type(rest(Ice(SHORT, ONE), 0, 0, 5)), tuple)
        self.assertIs(type(rest(Ice(SPOT, ONE), 0, 0, 5)), tuple)


class HiddenTest(unittest.TestCase):
    def test_one_stretch(self):
        self.assertEqual(hidden(Ice(SHORT, ONE), 0, 0, 5), [(6, 7)])

    def test_several_stretches(self):
        self.assertEqual(hidden(Ice(UNEVEN, [(50, 3, 4)]), 0, 0, 9), [(10, 10), (12, 12)])
        ice = Ice([(-1, (60, 60, 60, 0, 60, 60, 0, 60))], [(50, 1, 2)])
        self.assertEqual(hidden(ice, 0, 0, 20), [(21, 22), (24, 25), (27, 27)])

    def test_none(self):
        ice = Ice(SHORT, ONE)
        self.assertEqual([hidden(ice, 0, 1, 6), hidden(ice, 0, 2, 7), hidden(ice, 0, 2, 0)], [[], [], []])

    def test_snow_behind_the_year_in_which_it_was_left_hides_it_no_more(self):
        self.assertEqual(hidden(Ice([(-1, (60, 10, 60))], [(50, 3, 3)]), 0, 0, 5), [])

    def test_a_year_without_snow_or_sun_ends_no_stretch(self):
        ice = Ice([(-1, (60, 60, 60, 60))], [(50, 0, 1), (50, 2, 1)])
        self.assertEqual(hidden(ice, 0, 0, 7), [(9, 10)])

    def test_stones_against_a_plain_walk(self):
        for ice, lane, walk in walks():
            for year, place in itertools.product(range(0, YEARS - 30, 2), range(ice.length(lane))):
                years = [when for when, where, above, beneath in walk.stone(place, year)[0] if above > 0]
                self.assertEqual(hidden(ice, lane, place, year), stretches(years))

    def test_the_same_many_whole_rounds_later(self):
        for ice, lane, walk in walks():
            for place, rounds in itertools.product(range(ice.length(lane)), (1, 54321, 10 ** 38)):
                later = rounds * len(ice.rows())
                near = hidden(ice, lane, place, SETTLED)
                told = hidden(ice, lane, place, SETTLED + later)
                self.assertEqual(told, [(first + later, last + later) for first, last in near])

    def test_the_last_year(self):
        self.assertEqual(hidden(Ice(SHORT, ONE), 0, 0, LAST_ASKED), [(LAST_ASKED + 1, LAST_ASKED + 2)])

    def test_told_lists_are_new_ones(self):
        ice = Ice(SHORT, ONE)
        for place in (0, 2):
            told = hidden(ice, 0, place, 5)
            before = list(told)
            told.append("more")
            told[0] = "other"
            self.assertEqual(hidden(ice, 0, place, 5), before)

    def test_kinds(self):
        told = hidden(Ice(UNEVEN, [(50, 3, 4)]), 0, 0, 9)
        self.assertIs(type(told), list)
        self.assertEqual({type(row) for row in told}, {tuple})


class MoreIceTest(unittest.TestCase):
    def test_no_stone_is_left_sooner(self):
        for reaches, rows in itertools.product((SHORT, WAVES, BEHIND), ([(50, 3, 4)], TWO, [(40, 2, 3), (60, 1, 5)])):
            ice = made(reaches, rows, {}, {0: {4: 2}})
            for other in self.richer(ice):
                for lane in range(ice.many()):
                    for place, year in itertools.product(range(ice.length(lane)), range(14)):
                        self.check(rest(ice, lane, place, year), rest(other, lane, place, year))

    def richer(self, ice):
        """Ices alike but for one hand of snow more, or of sun less."""
        found = []
        for year in range(10):
            line, snow, sun = ice.weather(year)
            for row in ((line, snow + 1, sun), (line, snow, sun - 1)):
                found.append(ice.twin())
                found[-1].tell(year, row)
        line, snow, sun = ice.rows()[0]
        found.append(ice.twin())
        found[-1].turn([(line, snow + 1, sun)] + ice.rows()[1:])
        return found

    def check(self, poorer, richer):
        if richer[0] == "left":
            self.assertEqual(poorer[0], "left")
            self.assertLessEqual(poorer[1], richer[1])
        elif poorer[0] == "off":
            self.assertEqual(poorer, richer)


class RefusalTest(unittest.TestCase):
    def test_the_order_of_the_refusals(self):
        ice = made(BEHIND, ONE, {}, {0: {5: 3}})
        for ask in (way, rest, hidden):
            for lane, place, year in itertools.product((-1, 3, FAR, -FAR), (0, -1, 9, FAR, -FAR), (3,) + BAD_YEARS):
                self.refused(NoLane, ask, ice, lane, place, year)
            for lane, place, year in itertools.product((0, 2), (-1, 7, 9, FAR, -FAR), (3,) + BAD_YEARS):
                self.refused(NoPlace, ask, ice, lane, place, year)
            for lane, place, year in itertools.product((0, 1, 2), (0, 2), BAD_YEARS):
                self.refused(BadYear, ask, ice, lane, place, year)

    def test_the_last_place_of_each_lane(self):
        ice = Ice(BEHIND, ONE)
        for ask, (lane, many) in itertools.product((way, rest, hidden), enumerate((7, 9, 3))):
            ask(ice, lane, many - 1, 0)
            self.refused(NoPlace, ask, ice, lane, many, 0)

    def refused(self, refusal, ask, *things):
        with self.assertRaises(refusal):
            ask(*things)


class NothingIsChangedTest(unittest.TestCase):
    def test_the_ice_stays_as_it_was(self):
        ice = made(LONG, TWO, TOLD, {0: SURGES})
        before = copy.deepcopy(standing(ice))
        for ask, place, year in itertools.product((way, rest, hidden), (0, 29), (0, 5, 100, LAST_ASKED)):
            ask(ice, 0, place, year)
        for ask in (way, rest, hidden):
            with self.assertRaises(NoPlace):
                ask(ice, 0, 30, 0)
        self.assertEqual(standing(ice), before)


if __name__ == "__main__":
    unittest.main()
