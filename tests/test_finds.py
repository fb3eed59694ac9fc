import copy
import itertools
import random
import time
import unittest

from firnfall.finds import brought, falls_for, may_have
from firnfall.ice import Ice
from firnfall.stones import rest
from samples import BEHIND, FIVE, GREATEST, ONE, SHORT, SIX, SURGES, TOLD, TWELVE, TWO, WAVES
from samples import made, standing, walks

# Snow on three places, and a sun on two that takes all of it on the last place but not ahead.
DOWN = [(-1, (60, 60, 60, 10, 10))]
ALL_GONE = [(50, 1, 2)]


def tried(ice, cliffs, find):
    """The falls that can have brought a find, each cliff tried in each year."""
    lane, place, first, last, rock = find
    found = []
    for year in range(last + 1):
        for which, where, kind in cliffs:
            if which == lane and kind == rock:
                told = rest(ice, lane, where, year)
                if told[0] == "left" and told[2] == place and first <= told[1] <= last:
                    found.append((year, where))
    return sorted(found)


def together(rows):
    """Whether each row of things can have a thing of its own: no rows have fewer things together than they are."""
    rows = [set(row) for row in rows]
    return all(
        len(set().union(*some)) >= len(some)
        for many in range(1, len(rows) + 1) for some in itertools.combinations(rows, many)
    )


def rows_of(ice, cliffs, finds):
    """For each find its falls with their lane."""
    return [[(find[0], *fall) for fall in tried(ice, cliffs, find)] for find in finds]


def tried_together(rows, number):
    """The falls that a find may have, each one tried."""
    found = []
    for fall in rows[number]:
        others = [[other for other in row if other != fall] for row in rows[:number] + rows[number + 1:]]
        if together(others):
            found.append(fall[1:])
    return found


def some_cliffs(ice, chance, many, rocks):
    """So many cliffs on unlike places."""
    spots = [(lane, place) for lane in range(ice.many()) for place in range(ice.length(lane))]
    return [(*spot, chance.choice(rocks)) for spot in chance.sample(spots, min(many, len(spots)))]


def some_find(ice, chance, rocks, years):
    """A find that may well have falls, or none."""
    lane = chance.randrange(ice.many())
    first = chance.randrange(0, 90)
    return (lane, chance.randrange(ice.length(lane)), first, min(99, first + chance.randrange(years)), chance.choice(rocks))


class FallsTest(unittest.TestCase):
    def test_one_cliff(self):
        ice = Ice(DOWN, ALL_GONE)
        self.assertEqual(falls_for(ice, [(0, 0, "a")], (0, 4, 9, 9, "a")), [(5, 0)])
        self.assertEqual(falls_for(ice, [(0, 0, "a")], (0, 4, 9, 11, "a")), [(5, 0), (6, 0), (7, 0)])
        self.assertEqual(falls_for(ice, [(0, 0, "a")], (0, 3, 0, 99, "a")), [])

    def test_several_cliffs(self):
        ice = Ice(DOWN, ALL_GONE)
        cliffs = [(0, 3, "a"), (0, 0, "a"), (0, 2, "b"), (0, 1, "a"), (0, 4, "a")]
        self.assertEqual(falls_for(ice, cliffs, (0, 4, 9, 9, "a")), [(5, 0), (6, 1), (8, 3), (9, 4)])
        falls = [(5, 0), (6, 0), (6, 1), (7, 1), (8, 3), (9, 3), (9, 4), (10, 4)]
        self.assertEqual(falls_for(ice, cliffs, (0, 4, 9, 10, "a")), falls)
        self.assertEqual(falls_for(ice, cliffs, (0, 4, 9, 10, "b")), [(7, 2), (8, 2)])
        self.assertEqual(falls_for(ice, cliffs, (0, 4, 9, 10, "c")), [])

    def test_a_stone_that_falls_where_it_is_found(self):
        ice = Ice(SHORT, [(100, 0, 9)])
        for place in range(3):
            cliffs = [(0, where, "a") for where in range(3)]
            self.assertEqual(falls_for(ice, cliffs, (0, place, 4, 5, "a")), [(4, place), (5, place)])

    def test_what_was_left_ahead_is_not_brought_on(self):
        ice = Ice([(-1, (60, 10, 60, 10))], [(50, 2, 2)])
        cliffs = [(0, place, "a") for place in range(4)]
        self.assertEqual(falls_for(ice, cliffs, (0, 3, 7, 7, "a")), [(6, 2), (7, 3)])
        self.assertEqual(falls_for(ice, cliffs, (0, 1, 5, 5, "a")), [(4, 0), (5, 1)])

    def test_what_is_not_bare_leaves_nothing(self):
        ice = Ice(SHORT, ONE)
        cliffs = [(0, place, "a") for place in range(3)]
        self.assertEqual(falls_for(ice, cliffs, (0, 1, 0, 99, "a")), [])
        self.assertEqual(falls_for(ice, cliffs, (0, 2, 0, 99, "a")), [(0, 2)])

    def test_the_year_nought(self):
        ice = Ice(DOWN, ALL_GONE)
        cliffs = [(0, place, "a") for place in range(5)]
        self.assertEqual(falls_for(ice, cliffs, (0, 3, 0, 0, "a")), [(0, 3)])
        self.assertEqual(falls_for(ice, cliffs, (0, 3, 1, 1, "a")), [(0, 2), (1, 3)])

    def test_no_cliff(self):
        self.assertEqual(falls_for(Ice(DOWN, ALL_GONE), [], (0, 4, 0, 99, "a")), [])

    def test_cliffs_of_another_lane(self):
        ice = Ice(SIX, [(100, 0, 9)])
        cliffs = [(lane, 1, "a") for lane in range(6)]
        self.assertEqual(falls_for(ice, cliffs, (3, 1, 4, 5, "a")), [(4, 1), (5, 1)])
        self.assertEqual(falls_for(ice, cliffs[:3], (3, 1, 4, 5, "a")), [])

    def test_against_each_cliff_in_each_year(self):
        chance = random.Random(5)
        for ice, lane, walk in walks()[::2]:
            for many in (1, 4, 12):
                cliffs = some_cliffs(ice, chance, many, "ab")
                for years in (1, 9, 99):
                    find = some_find(ice, chance, "ab", years)
                    self.assertEqual(falls_for(ice, cliffs, find), tried(ice, cliffs, find))

    def test_stones_that_did_fall_against_a_plain_walk(self):
        for ice, lane, walk in walks()[1::2]:
            for place, year in itertools.product(range(0, ice.length(lane), 2), range(0, 90, 7)):
                told = walk.stone(place, year)[1]
                if told[0] == "left" and told[1] < 100:
                    for first, last in ((told[1], told[1]), (0, told[1]), (told[1], 99)):
                        find = (lane, told[2], first, last, "q")
                        self.assertIn((year, place), falls_for(ice, [(lane, place, "q")], find))
                        self.assertNotIn((year, place), falls_for(ice, [(lane, place, "p")], find))
                    find = (lane, told[2], told[1] + 1, 99, "q")
                    self.assertNotIn((year, place), falls_for(ice, [(lane, place, "q")], find))

    def test_rising(self):
        for reaches, rows in itertools.product((BEHIND, WAVES), (TWO, FIVE, TWELVE)):
            ice = made(reaches, rows, TOLD, {0: SURGES})
            cliffs = [(0, place, "a") for place in range(ice.length(0) - 1, -1, -1)]
            for place in range(ice.length(0)):
                falls = falls_for(ice, cliffs, (0, place, 0, 99, "a"))
                self.assertEqual(falls, sorted(set(falls)))

    def test_years_somewhat_beyond(self):
        ice = Ice(DOWN, ALL_GONE)
        self.assertEqual(falls_for(ice, [(0, 0, "a")], (0, 4, 100, 101, "a")), [(96, 0), (97, 0)])
        self.assertEqual(falls_for(ice, [(0, 3, "a")], (0, 3, -3, 0, "a")), [(0, 3)])
        self.assertEqual(falls_for(ice, [(0, 0, "a")], (0, 4, 9, 8, "a")), [])

    def test_kinds_and_new_lists(self):
        ice = Ice(DOWN, ALL_GONE)
        told = falls_for(ice, [(0, 0, "a")], (0, 4, 9, 11, "a"))
        self.assertIs(type(told), list)
        self.assertEqual({type(fall) for fall in told}, {tuple})
        told.clear()
        self.assertEqual(len(falls_for(ice, [(0, 0, "a")], (0, 4, 9, 11, "a"))), 3)


class TogetherTest(unittest.TestCase):
    def check(self, ice, cliffs, finds):
        """Hold what is told of finds together against what is tried."""
        rows = rows_of(ice, cliffs, finds)
        told = brought(ice, cliffs, finds)
        self.assertIs(type(told), tuple)
        self.assertIs(type(told[1]), list)
        if told[0] == "all":
            self.assertEqual(len(told[1]), len(finds))
            falls = [(find[0], *fall) for find, fall in zip(finds, told[1])]
            self.assertEqual(len(set(falls)), len(falls))
            for fall, row in zip(falls, rows):
                self.assertIn(fall, row)
            self.assertEqual({type(fall) for fall in told[1]} - {tuple}, set())
        else:
            self.assertEqual(told[0], "none")
            self.check_none(rows, told[1])
        for number in range(len(finds)):
            wanted = tried_together(rows, number) if told[0] == "all" else []
            self.assertEqual(may_have(ice, cliffs, finds, number), wanted)
        return told

    def check_none(self, rows, numbers):
        self.assertTrue(numbers)
        self.assertEqual(numbers, sorted(set(numbers)))
        some = [rows[number] for number in numbers]
        self.assertFalse(together(some))
        for at in range(len(some)):
            self.assertTrue(together(some[:at] + some[at + 1:]))

    def test_no_find(self):
        self.assertEqual(self.check(Ice(DOWN, ALL_GONE), [(0, 0, "a")], []), ("all", []))
        self.assertEqual(self.check(Ice(DOWN, ALL_GONE), [], []), ("all", []))

    def test_one_find(self):
        ice = Ice(DOWN, ALL_GONE)
        self.assertEqual(self.check(ice, [(0, 0, "a")], [(0, 4, 9, 9, "a")]), ("all", [(5, 0)]))
        self.assertEqual(self.check(ice, [(0, 0, "a")], [(0, 4, 9, 9, "b")]), ("none", [0]))
        self.assertEqual(self.check(ice, [], [(0, 4, 9, 9, "a")]), ("none", [0]))

    def test_a_find_without_any_fall_among_others(self):
        finds = [(0, 4, 9, 9, "a"), (0, 4, 20, 20, "a"), (0, 0, 9, 9, "a"), (0, 4, 30, 30, "a")]
        self.assertEqual(self.check(Ice(DOWN, ALL_GONE), [(0, 0, "a")], finds), ("none", [2]))

    def test_two_finds_of_one_fall(self):
        finds = [(0, 4, 20, 20, "a"), (0, 4, 9, 9, "a"), (0, 4, 30, 30, "a"), (0, 4, 9, 9, "a")]
        self.assertEqual(self.check(Ice(DOWN, ALL_GONE), [(0, 0, "a")], finds), ("none", [1, 3]))

    def test_finds_that_have_to_move_on(self):
        ice = Ice(DOWN, ALL_GONE)
        wide, middle, narrow = (0, 4, 9, 11, "a"), (0, 4, 9, 10, "a"), (0, 4, 9, 9, "a")
        for finds in itertools.permutations((wide, middle, narrow)):
            told = self.check(ice, [(0, 0, "a")], list(finds))
            falls = {wide: (7, 0), middle: (6, 0), narrow: (5, 0)}
            self.assertEqual(told, ("all", [falls[find] for find in finds]))

    def test_three_for_two_and_one_more_that_is_in_nobodys_way(self):
        ice = Ice(DOWN, ALL_GONE)
        finds = [(0, 4, 9, 10, "a"), (0, 4, 9, 20, "a"), (0, 4, 9, 9, "a"), (0, 4, 10, 10, "a")]
        for order in itertools.permutations(range(4)):
            told = self.check(ice, [(0, 0, "a")], [finds[number] for number in order])
            self.assertEqual(told, ("none", sorted(order.index(number) for number in (0, 2, 3))))

    def test_twelve_finds_alike(self):
        ice = Ice(DOWN, ALL_GONE)
        for years, word in ((11, "none"), (12, "all"), (13, "all")):
            finds = [(0, 4, 9, 8 + years, "a")] * 12
            told = self.check(ice, [(0, 0, "a")], finds)
            self.assertEqual(told[0], word)
            if word == "none":
                self.assertEqual(told[1], list(range(12)))

    def test_like_falls_of_several_lanes(self):
        ice = Ice(SIX, [(100, 0, 9)])
        cliffs = [(lane, 1, "a") for lane in range(6)]
        finds = [(lane, 1, 4, 4, "a") for lane in range(6)]
        self.assertEqual(self.check(ice, cliffs, finds), ("all", [(4, 1)] * 6))
        self.assertEqual(self.check(ice, cliffs, finds + [finds[2]]), ("none", [2, 6]))

    def test_falls_that_only_another_find_can_have(self):
        ice = Ice(DOWN, ALL_GONE)
        finds = [(0, 4, 9, 11, "a"), (0, 4, 9, 9, "a")]
        self.assertEqual(may_have(ice, [(0, 0, "a")], finds, 0), [(6, 0), (7, 0)])
        self.assertEqual(may_have(ice, [(0, 0, "a")], finds, 1), [(5, 0)])
        self.assertEqual(may_have(ice, [(0, 0, "a")], finds[::-1], 1), [(6, 0), (7, 0)])

    def test_no_fall_may_be_had_where_not_all_are_brought_together(self):
        finds = [(0, 4, 9, 11, "a"), (0, 4, 9, 9, "b")]
        for number in range(2):
            self.assertEqual(may_have(Ice(DOWN, ALL_GONE), [(0, 0, "a")], finds, number), [])

    def test_many_finds_by_chance(self):
        chance = random.Random(11)
        words = set()
        for step in range(150):
            ice = made(chance.choice((DOWN, WAVES, SIX)), chance.choice((ALL_GONE, FIVE, [(50, 2, 3), (70, 1, 5)])))
            cliffs = some_cliffs(ice, chance, chance.randrange(1, 13), "ab")
            finds = [some_find(ice, chance, "ab", 5) for find in range(40)]
            finds = [find for find in finds if tried(ice, cliffs, find) or chance.random() < 0.01]
            finds = [chance.choice(finds) for find in range(chance.randrange(1, 8))] if finds else []
            words.add(self.check(ice, cliffs, finds)[0])
        self.assertEqual(words, {"all", "none"})

    def test_narrow_finds_by_chance(self):
        chance = random.Random(12)
        told = []
        for step in range(250):
            finds = []
            for find in range(chance.randrange(2, 9)):
                first = chance.randrange(10, 16)
                finds.append((0, 4, first, first + chance.randrange(3), "a"))
            told.append(self.check(Ice(DOWN, ALL_GONE), [(0, 0, "a")], finds))
        self.assertGreater(len([word for word, some in told if word == "all"]), 20)
        self.assertGreater(len([some for word, some in told if word == "none" and len(some) > 2]), 20)

    def test_lists_handed_in_stay(self):
        ice = made(WAVES, TWO, TOLD, {0: SURGES})
        cliffs = [(0, place, "a") for place in range(8)]
        finds = [(0, 9, 0, 99, "a"), (0, 8, 0, 50, "a"), (1, 3, 0, 5, "b")]
        before = copy.deepcopy((cliffs, finds, standing(ice)))
        falls_for(ice, cliffs, finds[0])
        brought(ice, cliffs, finds)
        brought(ice, cliffs, finds[:2])
        may_have(ice, cliffs, finds[:2], 1)
        self.assertEqual((cliffs, finds, standing(ice)), before)

    def test_told_lists_are_new_ones(self):
        ice = Ice(DOWN, ALL_GONE)
        for finds in ([(0, 4, 9, 11, "a")], [(0, 4, 9, 11, "b")], []):
            told = brought(ice, [(0, 0, "a")], finds)
            before = copy.deepcopy(told)
            told[1].append("more")
            self.assertEqual(brought(ice, [(0, 0, "a")], finds), before)
        for rock in "ab":
            told = may_have(ice, [(0, 0, "a")], [(0, 4, 9, 11, rock)], 0)
            before = list(told)
            told.append("more")
            self.assertEqual(may_have(ice, [(0, 0, "a")], [(0, 4, 9, 11, rock)], 0), before)

    def test_names_of_arguments(self):
        ice, cliffs, finds = Ice(DOWN, ALL_GONE), [(0, 0, "a")], [(0, 4, 9, 11, "a")]
        self.assertEqual(falls_for(ice=ice, cliffs=cliffs, find=finds[0]), falls_for(ice, cliffs, finds[0]))
        self.assertEqual(brought(ice=ice, cliffs=cliffs, finds=finds), brought(ice, cliffs, finds))
        self.assertEqual(may_have(ice=ice, cliffs=cliffs, finds=finds, number=0), may_have(ice, cliffs, finds, 0))

    def test_twelve_finds_of_many_falls_answer_at_once(self):
        surges = {lane: {8 * year: year % 9 + 1 for year in range(12)} for lane in range(6)}
        cliffs = [(0, place, "a") for place in range(12)]
        started = time.monotonic()
        # Bare at the end: each place of the lane leaves stones in nearly each year, from each cliff above it.
        ice = made(GREATEST, [(60, 2, 1), (55, 1, 2)], {}, surges)
        finds = [(0, place, 0, 99, "a") for place in (24, 25, 26, 27, 28, 29)] * 2
        self.assertEqual(brought(ice, cliffs, finds)[0] in ("all", "none"), True)
        for number in range(12):
            may_have(ice, cliffs, finds, number)
        one = Ice([(-1, (60,) * 11 + (10,)), (0, (60,) * 12)], [(50, 1, 9), (50, 0, 9), (50, 0, 9)])
        finds = [(0, 23, 0, 99, "a")] * 12
        self.assertGreater(len(falls_for(one, cliffs, finds[0])), 300)
        self.assertEqual(brought(one, cliffs, finds)[0], "all")
        for number in range(12):
            self.assertGreater(len(may_have(one, cliffs, finds, number)), 300)
        self.assertLess(time.monotonic() - started, 20)


if __name__ == "__main__":
    unittest.main()
