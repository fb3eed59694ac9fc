import copy
import itertools
import unittest

from firnfall.errors import NoLane
from firnfall.valley import across, heights, is_valley, lanes, meeting

FAR = 10 ** 6000

# Two heads that meet one behind the other: 4 and 3 come into 1, and 1 and 2 come into 0.
BEHIND = [(-1, (5, 4)), (0, (20, 15, 10)), (0, (30,)), (1, (50, 40)), (1, (90, 80, 70, 60))]

# The greater head is the left one, for it comes by the reach 1 into the reach 0.
CROSSED = [(-1, (3,)), (0, (9, 8)), (0, (20, 19, 18)), (2, (40,)), (1, (50, 51))]


def shapes(many):
    """Every row of `to` that reaches of this count may have."""
    return itertools.product([-1], *[range(number) for number in range(1, many)])


def shaped(tos):
    """A valley of this shape, whose heights tell the reach and the place in it."""
    return [(to, tuple(number * 10 + at for at in range(number % 3 + 1))) for number, to in enumerate(tos)]


def is_left(one, other):
    """The words of the document: who comes into the first shared reach by the lesser reach."""
    at = min(place for place, reach in enumerate(one) if reach in other)
    return one[at - 1] < other[other.index(one[at]) - 1]


def chain(*counts):
    """A valley of one lane, whose reaches have so many places each."""
    return [(number - 1, (50,) * count) for number, count in enumerate(counts)]


class IsValleyTest(unittest.TestCase):
    def holds(self, reaches):
        self.assertIs(is_valley(reaches), True)

    def fails(self, reaches):
        self.assertIs(is_valley(reaches), False)

    def test_how_many_reaches(self):
        for many in range(0, 20):
            with self.subTest(many=many):
                self.assertIs(is_valley(chain(*[1] * many)), 1 <= many <= 8)

    def test_how_many_heights(self):
        for many in range(0, 31):
            with self.subTest(many=many):
                self.assertIs(is_valley([(-1, (50,) * many)]), 1 <= many <= 12)

    def test_how_many_heights_of_a_later_reach(self):
        for many in range(0, 18):
            for reach in (1, 2):
                with self.subTest(many=many, reach=reach):
                    reaches = [(-1, (50,)), (0, (50,)), (0, (50,))]
                    reaches[reach] = (0, (50,) * many)
                    self.assertIs(is_valley(reaches), 1 <= many <= 12)

    def test_heights_within_the_bounds(self):
        self.holds([(-1, (0,))])
        self.holds([(-1, (99,))])
        self.holds([(-1, (0, 99, 0)), (0, (99, 0))])

    def test_heights_beyond_the_bounds(self):
        for bad in (-1, 100, -1000, 1000, FAR, -FAR):
            for place in range(3):
                slope = [50, 50, 50]
                slope[place] = bad
                self.fails([(-1, tuple(slope))])
                self.fails([(-1, (50,)), (0, tuple(slope))])
                self.fails([(-1, (50,)), (0, tuple(slope)), (0, (50,))])

    def test_heights_may_rise_fall_and_stay(self):
        self.holds([(-1, (10, 50, 50, 20))])

    def test_the_reach_nought_leads_into_none(self):
        for to in (0, 1, 2, -2, -1000, 1000, FAR, -FAR):
            self.fails([(to, (50,))])
            self.fails([(to, (50,)), (0, (50,))])

    def test_a_later_reach_leads_into_a_lesser_one(self):
        for number in range(1, 8):
            for to in range(-10, 20):
                with self.subTest(number=number, to=to):
                    reaches = chain(*[1] * 8)
                    reaches[number] = (to, (50,))
                    self.assertIs(is_valley(reaches), 0 <= to < number)

    def test_a_later_reach_that_leads_far_off(self):
        for to in (FAR, -FAR):
            self.fails([(-1, (50,)), (to, (50,))])
            self.fails([(-1, (50,)), (0, (50,)), (to, (50,))])

    def test_how_many_lanes(self):
        for many in range(1, 8):
            with self.subTest(many=many):
                self.assertIs(is_valley([(-1, (50,))] + [(0, (50,))] * many), many <= 6)

    def test_six_lanes_of_eight_reaches(self):
        self.holds([(-1, (50,)), (0, (50,))] + [(1, (50,))] * 6)
        self.holds([(-1, (50,)), (0, (50,))] + [(1, (50,))] * 3 + [(0, (50,))] * 2)

    def test_how_many_places_of_a_lane(self):
        self.holds(chain(12, 12, 6))
        self.fails(chain(12, 12, 7))
        self.holds(chain(6, 12, 12))
        self.fails(chain(7, 12, 12))
        self.fails(chain(12, 12, 12))
        self.holds(chain(4, 4, 4, 4, 4, 4, 4, 2))
        self.fails(chain(4, 4, 4, 4, 4, 4, 4, 3))

    def test_every_lane_is_measured(self):
        short, long = (50,) * 6, (50,) * 7
        for slopes in itertools.product([short, long], repeat=3):
            with self.subTest(slopes=[len(slope) for slope in slopes]):
                reaches = [(-1, (50,) * 12), (0, (50,) * 12)] + [(1, slope) for slope in slopes]
                self.assertIs(is_valley(reaches), long not in slopes)

    def test_lanes_are_measured_one_by_one(self):
        self.holds([(-1, (50,) * 12)] + [(0, (50,) * 12)] * 6)

    def test_every_shape(self):
        for many in range(1, 9):
            for tos in shapes(many):
                heads = many - len(set(tos) - {-1})
                self.assertIs(is_valley([(to, (50,)) for to in tos]), heads <= 6)

    def test_the_list_stays_as_it_was(self):
        for reaches in ([], BEHIND, CROSSED, [(3, (50,))], chain(12, 12, 12), [(-1, (1,))] + [(0, (2,))] * 7):
            handed = copy.deepcopy(reaches)
            is_valley(handed)
            self.assertEqual(handed, reaches)

    def test_nothing_is_kept_of_the_list(self):
        reaches = [(-1, (50,))]
        self.holds(reaches)
        reaches.append((1, (50,)))
        self.fails(reaches)
        reaches[1] = (0, (50,))
        self.holds(reaches)


class LanesTest(unittest.TestCase):
    def test_one_reach(self):
        self.assertEqual(lanes([(-1, (5,))]), [(0,)])

    def test_one_lane_of_several_reaches(self):
        self.assertEqual(lanes(chain(1, 2, 3)), [(2, 1, 0)])

    def test_reaches_that_meet_in_one_place(self):
        self.assertEqual(lanes([(-1, (5,)), (0, (6,)), (0, (7,)), (0, (8,))]), [(1, 0), (2, 0), (3, 0)])

    def test_reaches_that_meet_one_behind_the_other(self):
        self.assertEqual(lanes(BEHIND), [(3, 1, 0), (4, 1, 0), (2, 0)])

    def test_the_order_is_decided_where_lanes_meet(self):
        self.assertEqual(lanes(CROSSED), [(4, 1, 0), (3, 2, 0)])

    def test_the_order_is_decided_at_the_first_shared_reach(self):
        reaches = [(-1, (1,)), (0, (2,)), (1, (3,)), (1, (4,)), (3, (5,)), (2, (6,)), (0, (7,))]
        self.assertEqual(lanes(reaches), [(5, 2, 1, 0), (4, 3, 1, 0), (6, 0)])

    def test_a_longer_lane_right_of_a_shorter_one(self):
        self.assertEqual(lanes([(-1, (1,)), (0, (2,)), (0, (3,)), (2, (4,))]), [(1, 0), (3, 2, 0)])

    def test_every_shape(self):
        for many in range(1, 8):
            for tos in shapes(many):
                told = lanes(shaped(tos))
                self.assertEqual(sorted(way[0] for way in told), [head for head in range(many) if head not in tos])
                for way in told:
                    self.assertEqual(way[-1], 0)
                    self.assertEqual([tos[reach] for reach in way], list(way[1:]) + [-1])
                for one, other in itertools.combinations(told, 2):
                    self.assertTrue(is_left(one, other))
                    self.assertFalse(is_left(other, one))

    def test_kinds(self):
        told = lanes(BEHIND)
        self.assertIs(type(told), list)
        self.assertEqual([type(way) for way in told], [tuple] * 3)


class HeightsTest(unittest.TestCase):
    def test_one_reach(self):
        self.assertEqual(heights([(-1, (9, 3, 7))], 0), [9, 3, 7])

    def test_places_in_their_order(self):
        self.assertEqual(heights(BEHIND, 0), [50, 40, 20, 15, 10, 5, 4])
        self.assertEqual(heights(BEHIND, 1), [90, 80, 70, 60, 20, 15, 10, 5, 4])
        self.assertEqual(heights(BEHIND, 2), [30, 5, 4])

    def test_lanes_are_counted_from_the_left(self):
        self.assertEqual(heights(CROSSED, 0), [50, 51, 9, 8, 3])
        self.assertEqual(heights(CROSSED, 1), [40, 20, 19, 18, 3])

    def test_a_lane_of_thirty_places(self):
        reaches = [(-1, tuple(range(12))), (0, tuple(range(20, 32))), (1, tuple(range(40, 46)))]
        self.assertEqual(heights(reaches, 0), list(range(40, 46)) + list(range(20, 32)) + list(range(12)))

    def test_no_such_lane(self):
        for reaches in ([(-1, (5,))], BEHIND, CROSSED):
            many = len(lanes(reaches))
            heights(reaches, many - 1)
            for lane in (-1, -many, -1000, many, many + 1, 1000, FAR, -FAR):
                with self.assertRaises(NoLane):
                    heights(reaches, lane)

    def test_six_lanes(self):
        reaches = [(-1, (1,))] + [(0, (10 * number,)) for number in range(1, 7)]
        self.assertEqual([heights(reaches, lane) for lane in range(6)], [[10 * k, 1] for k in range(1, 7)])
        with self.assertRaises(NoLane):
            heights(reaches, 6)

    def test_kind(self):
        self.assertIs(type(heights(BEHIND, 0)), list)


class AcrossTest(unittest.TestCase):
    def test_one_reach(self):
        self.assertEqual(across([(-1, (5,))], 0), [0])

    def test_each_reach(self):
        self.assertEqual([across(BEHIND, reach) for reach in range(5)], [[0, 1, 2], [0, 1], [2], [0], [1]])
        self.assertEqual([across(CROSSED, reach) for reach in range(5)], [[0, 1], [0], [1], [1], [0]])
        self.assertEqual([across(chain(1, 2, 3), reach) for reach in range(3)], [[0], [0], [0]])

    def test_every_shape(self):
        for many in range(1, 7):
            for tos in shapes(many):
                reaches = shaped(tos)
                told = lanes(reaches)
                for reach in range(many):
                    through = [lane for lane in range(len(told)) if reach in told[lane]]
                    self.assertEqual(across(reaches, reach), through)
                    self.assertNotEqual(through, [])

    def test_kind(self):
        self.assertIs(type(across(BEHIND, 0)), list)


class MeetingTest(unittest.TestCase):
    def test_one_behind_the_other(self):
        self.assertEqual(meeting(BEHIND, 0, 1), (1, 2, 4))
        self.assertEqual(meeting(BEHIND, 1, 0), (1, 4, 2))
        self.assertEqual(meeting(BEHIND, 0, 2), (0, 5, 1))
        self.assertEqual(meeting(BEHIND, 2, 0), (0, 1, 5))
        self.assertEqual(meeting(BEHIND, 1, 2), (0, 7, 1))
        self.assertEqual(meeting(BEHIND, 2, 1), (0, 1, 7))

    def test_in_the_reach_nought(self):
        self.assertEqual(meeting(CROSSED, 0, 1), (0, 4, 4))
        self.assertEqual(meeting([(-1, (5,)), (0, (6, 6)), (0, (7,))], 0, 1), (0, 2, 1))

    def test_a_shared_reach_above_others(self):
        reaches = [(-1, (1, 1)), (0, (2, 2)), (1, (3,)), (2, (4, 4, 4)), (2, (5,))]
        self.assertEqual(meeting(reaches, 0, 1), (2, 3, 1))
        self.assertEqual(meeting(reaches, 1, 0), (2, 1, 3))

    def test_every_two_lanes_of_every_shape(self):
        for many in range(1, 7):
            for tos in shapes(many):
                reaches = shaped(tos)
                told = lanes(reaches)
                for one, other in itertools.permutations(range(len(told)), 2):
                    reach, place, other_place = meeting(reaches, one, other)
                    self.assertEqual(meeting(reaches, other, one), (reach, other_place, place))
                    slopes, others = heights(reaches, one), heights(reaches, other)
                    self.assertEqual(slopes[place], reaches[reach][1][0])
                    self.assertEqual(slopes[place:], others[other_place:])
                    ahead = told[one][:told[one].index(reach)]
                    self.assertEqual([k for k in ahead if k in told[other]], [])

    def test_no_such_lane(self):
        for reaches in ([(-1, (5,))], BEHIND, CROSSED):
            many = len(lanes(reaches))
            for bad in (-1, -many, many, many + 1, 1000, FAR, -FAR):
                for good in range(many):
                    with self.assertRaises(NoLane):
                        meeting(reaches, bad, good)
                    with self.assertRaises(NoLane):
                        meeting(reaches, good, bad)
                with self.assertRaises(NoLane):
                    meeting(reaches, bad, bad - 1 if bad < 0 else bad + 1)

    def test_kind(self):
        self.assertIs(type(meeting(BEHIND, 0, 1)), tuple)


class NothingIsKeptTest(unittest.TestCase):
    def answers(self, reaches):
        many = range(len(lanes(reaches)))
        return [
            is_valley(reaches),
            lanes(reaches),
            [heights(reaches, lane) for lane in many],
            [across(reaches, reach) for reach in range(len(reaches))],
            [meeting(reaches, one, other) for one, other in itertools.permutations(many, 2)],
        ]

    def test_told_lists_are_new_ones(self):
        before = copy.deepcopy(self.answers(BEHIND))
        for told in (lanes(BEHIND), heights(BEHIND, 1), across(BEHIND, 0)):
            told.append("more")
            told[0] = "other"
            told.reverse()
            self.assertEqual(self.answers(BEHIND), before)
            told.clear()
            self.assertEqual(self.answers(BEHIND), before)

    def test_what_is_handed_in_stays_as_it_was(self):
        for reaches in (BEHIND, CROSSED, chain(1, 2, 3)):
            handed = copy.deepcopy(reaches)
            self.answers(handed)
            for lane in (-1, 6):
                with self.assertRaises(NoLane):
                    heights(handed, lane)
                with self.assertRaises(NoLane):
                    meeting(handed, 0, lane)
            self.assertEqual(handed, reaches)

    def test_one_valley_behind_another(self):
        first, second = copy.deepcopy(self.answers(BEHIND)), copy.deepcopy(self.answers(CROSSED))
        self.assertNotEqual(first, second)
        for turn in range(3):
            self.assertEqual(self.answers(BEHIND), first)
            self.assertEqual(self.answers(CROSSED), second)

    def test_a_list_that_is_changed_afterwards(self):
        reaches = list(BEHIND)
        before = copy.deepcopy(self.answers(reaches))
        told = lanes(reaches)
        reaches[:] = CROSSED
        self.assertEqual(told, before[1])
        self.assertEqual(self.answers(reaches), self.answers(CROSSED))
        reaches[:] = BEHIND
        self.assertEqual(self.answers(reaches), before)


if __name__ == "__main__":
    unittest.main()
