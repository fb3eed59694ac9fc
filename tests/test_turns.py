"""All questions of the ice asked by turns of several glaciers, deeds between them, and in far years."""

import itertools
import time
import unittest

from firnfall.ends import birth_of, end_of
from firnfall.errors import BadHand
from firnfall.ice import Ice
from firnfall.lives import life, pile
from firnfall.rides import mark, ridden, span, stands
from firnfall.snouts import snout, snouts
from firnfall.stones import hidden, rest, way
from firnfall.sums import so_far, sums
from samples import BEHIND, FIVE, GREATEST, LAST_ASKED, SURGES, TOLD, TWELVE, TWO, WAVES
from samples import made, walked

YEARS = (0, 1, 4, 6, 9, 34, 98, 100, 140, LAST_ASKED - 3, LAST_ASKED)


def hand_or_none(ask, *things):
    """What is told of a hand, or None where there is no such hand."""
    try:
        return ask(*things)
    except BadHand:
        return None


def of_place(ice, lane, place, year):
    """All that is told of a place in a year."""
    label = mark(ice, lane, place, year)
    hands = [hand_or_none(ask, ice, lane, place, year, hand) for ask in (end_of, birth_of) for hand in range(3)]
    return [
        label, stands(ice, lane, label, year), span(ice, lane, label), life(ice, lane, label), hands,
        pile(ice, lane, place, year), way(ice, lane, place, year), rest(ice, lane, place, year),
        hidden(ice, lane, place, year),
    ]


def of_lane(ice, lane, year):
    """All that is told of a lane in a year."""
    return [ridden(ice, lane, year), snout(ice, lane, year), sums(ice, lane, year), so_far(ice, lane, year)]


def answers(ice, lanes=(0, 1), places=(0, 1, 2), years=YEARS):
    """All that is told of some lanes, places and years."""
    return [
        [snouts(ice, lane) for lane in lanes],
        [of_lane(ice, lane, year) for lane, year in itertools.product(lanes, years)],
        [of_place(ice, *where) for where in itertools.product(lanes, places, years)],
    ]


def told_anew(ice):
    """An Ice that stands like this one and was told everything from the last to the first."""
    other = Ice(ice.reaches(), ice.rows())
    for year, row in ice.told()[::-1]:
        other.tell(year, row)
    for lane in range(ice.many()):
        for year, many in ice.surges(lane)[::-1]:
            other.surge(lane, year, many)
    return other


class ByTurnsTest(unittest.TestCase):
    def check(self, *ices):
        """Ask each one twice by turns, and hold the answers against those of ices that were told the same anew."""
        wanted = [answers(told_anew(ice)) for ice in ices]
        # Here as below only whether they are alike is asked: written out, the answers fill pages.
        for again in range(2):
            self.assertTrue([answers(ice) for ice in ices] == wanted)

    def test_unlike_glaciers(self):
        one = made(BEHIND, TWO, TOLD, {0: SURGES})
        other = made(WAVES, FIVE, {4: (0, 9, 9)}, {1: {4: 2}})
        self.assertTrue(answers(one) != answers(other))
        self.check(one, other)
        one.tell(4, (30, 2, 7))
        self.check(one, other)
        other.surge(0, 5, 9)
        self.check(one, other)
        one.calm(0, 4)
        other.plain(4)
        self.check(one, other)

    def test_twins_with_one_thing_told_otherwise(self):
        one = made(BEHIND, TWO, {5: (10, 3, 1)}, {0: {2: 1}})
        deeds = [
            lambda ice: ice.tell(6, (0, 9, 0)),
            lambda ice: ice.tell(5, (10, 4, 1)),
            lambda ice: ice.plain(5),
            lambda ice: ice.surge(0, 8, 1),
            lambda ice: ice.surge(0, 2, 3),
            lambda ice: ice.calm(0, 2),
            lambda ice: ice.turn(TWO[::-1]),
            lambda ice: ice.turn([(50, 3, 2), (70, 1, 3)]),
        ]
        before = answers(one)
        for deed in deeds:
            other = one.twin()
            self.assertTrue(answers(other) == before)
            deed(other)
            self.assertTrue(answers(other) != before)
            self.check(one, other, one)
            self.assertTrue(answers(one) == before)

    def test_told_and_taken_away_again(self):
        ice = made(WAVES, TWELVE)
        before = answers(ice)
        ice.tell(6, (0, 9, 0))
        ice.surge(0, 7, 4)
        self.assertTrue(answers(ice) != before)
        ice.plain(6)
        ice.calm(0, 7)
        self.assertTrue(answers(ice) == before)
        ice.turn(TWO)
        self.assertTrue(answers(ice) != before)
        ice.turn(TWELVE)
        self.assertTrue(answers(ice) == before)

    def test_deeds_by_turns_against_a_plain_walk(self):
        one = made(BEHIND, TWO, {3: (10, 3, 1)}, {0: {2: 1}})
        other = one.twin()
        for step in range(6):
            one.tell(3 + step, (9 * step, step, 9 - step))
            other.surge(step % 2, 3 + step, 1 + step)
            for ice, lane in itertools.product((one, other), (0, 1)):
                self.walk_along(ice, lane)

    def walk_along(self, ice, lane):
        walk = walked(ice, lane, ice.told(), {lane: dict(ice.surges(lane))}, 40)
        for year, place in itertools.product(range(14), range(ice.length(lane))):
            self.assertEqual(pile(ice, lane, place, year), walk.runs(place, year))
            self.assertEqual((way(ice, lane, place, year), rest(ice, lane, place, year)), walk.stone(place, year))
        for year in range(20):
            self.assertEqual(snout(ice, lane, year), walk.snout(year))
            self.assertEqual(sums(ice, lane, year), walk.sums(year))
        for (year, place, layer), end in walk.ends.items():
            if year < 14:
                self.assertEqual(end_of(ice, lane, place, year, layer), end)

    def test_names_of_arguments(self):
        ice = made(BEHIND, TWO)
        self.assertEqual(end_of(ice=ice, lane=0, place=0, year=4, layer=0), end_of(ice, 0, 0, 4, 0))
        self.assertEqual(birth_of(ice=ice, lane=1, place=5, year=9, turn=0), birth_of(ice, 1, 5, 9, 0))
        for ask in (way, rest, hidden):
            self.assertEqual(ask(ice=ice, lane=1, place=2, year=9), ask(ice, 1, 2, 9))
        for ask in (snout, sums, so_far):
            self.assertEqual(ask(ice=ice, lane=1, year=9), ask(ice, 1, 9))
        self.assertEqual(snouts(ice=ice, lane=1), snouts(ice, 1))


class FarYearsTest(unittest.TestCase):
    def test_the_greatest_valley_answers_at_once(self):
        surges = {lane: {year: (year + lane) % 9 + 1 for year in range(100)} for lane in range(6)}
        told = {year: (year, year % 10, 9 - year % 10) for year in range(100)}
        ice = made(GREATEST, TWELVE, told, surges)
        self.assertEqual([ice.length(lane) for lane in range(ice.many())], [30] * 6)
        started = time.monotonic()
        answers(ice, range(6), (0, 13, 29), (LAST_ASKED - 13, LAST_ASKED))
        # Far more than is needed, and far less than a walk along the years would take.
        self.assertLess(time.monotonic() - started, 20)


if __name__ == "__main__":
    unittest.main()
