"""Valleys, rounds and ices that several tests use."""

import functools

from firnfall.ice import Ice
from plainwalk import Walk

FAR = 10 ** 6000
LAST_ASKED = 10 ** 40

# One place, and one lane of few places.
SPOT = [(-1, (40,))]
SHORT = [(-1, (90, 60, 30))]

# Two heads that meet one behind the other: 4 and 3 come into 1, and 1 and 2 come into 0; lanes of 7, 9 and 3 places.
BEHIND = [(-1, (5, 4)), (0, (20, 15, 10)), (0, (30,)), (1, (50, 40)), (1, (90, 80, 70, 60))]

# Six lanes that come into one reach, and one lane of thirty places.
SIX = [(-1, (10, 0))] + [(0, tuple(range(99, 99 - 3 * many, -3))) for many in range(1, 7)]
LONG = [(-1, tuple(range(33, 9, -2))), (0, tuple(range(66, 42, -2))), (1, tuple(range(99, 81, -3)))]

# Places that are not ever lower: what has melted is snowed upon again farther down.
WAVES = [(-1, (80, 10, 70, 20, 60, 30)), (0, (30, 90, 5, 50)), (0, (99, 0, 98, 1))]

# Eight reaches, six lanes of thirty places each.
GREATEST = [(-1, (14, 12, 10, 8, 6, 4)), (0, tuple(range(40, 16, -2)))]
GREATEST += [(1, tuple(range(99 - lane, 99 - lane - 48, -4))) for lane in range(6)]

ONE = [(50, 3, 2)]
TWO = [(50, 3, 2), (70, 1, 4)]
FIVE = [(30, 9, 1), (45, 2, 2), (0, 1, 9), (100, 9, 3), (60, 0, 5)]
TWELVE = [(8 * number, number % 5 + 1, number % 4) for number in range(12)]

TOLD = {0: (60, 5, 5), 1: (0, 9, 9), 7: (100, 9, 9), 8: (40, 1, 0), 50: (20, 4, 1), 98: (0, 9, 0), 99: (99, 0, 9)}
SURGES = {0: 2, 3: 1, 4: 9, 5: 9, 20: 1, 33: 7, 98: 4, 99: 9}

YEARS = 180
# From this year on no told weather, no surge and no bare beginning is left in any column on a lane, or just gone.
SETTLED = 99 + 1 + 30


def made(reaches, rows, told=(), surges=()):
    """An Ice with told years, a dict, and with surges, a dict of dicts by lanes."""
    ice = Ice(reaches, rows)
    for year, row in dict(told).items():
        ice.tell(year, row)
    for lane, leaps in dict(surges).items():
        for year, many in leaps.items():
            ice.surge(lane, year, many)
    return ice


def standing(ice):
    """All that an Ice tells, as far as it can be asked for within reason."""
    lanes = range(ice.many())
    years = list(range(240)) + [10 ** 6 + k for k in range(12)] + [LAST_ASKED - k for k in range(12)]
    return [
        ice.reaches(),
        ice.rows(),
        ice.many(),
        [ice.length(lane) for lane in lanes],
        [[ice.height(lane, place) for place in range(ice.length(lane))] for lane in lanes],
        ice.told(),
        [ice.surges(lane) for lane in lanes],
        [ice.weather(year) for year in years],
    ]


def samples():
    """Pairs of an Ice and its told years and surges, a dict of dicts by lanes."""
    found = []
    for reaches in (SPOT, SHORT, BEHIND, SIX, LONG, WAVES):
        for number, rows in enumerate((ONE, TWO, FIVE, TWELVE)):
            many = Ice(reaches, rows).many()
            surges = {lane: SURGES for lane in range(0, many, 2)} if number else {}
            if number == 3:
                surges = {lane: {year: year % 9 + 1 for year in range(lane, 100, lane + 3)} for lane in range(many)}
            told = TOLD if number % 2 else {}
            found.append((made(reaches, rows, told, surges), told, surges))
    return found


@functools.lru_cache(maxsize=None)
def walks():
    """For each lane of each sample the Ice, which no test may change, the lane, and what a plain walk finds."""
    return [
        (ice, lane, walked(ice, lane, told, surges))
        for ice, told, surges in samples() for lane in range(ice.many())
    ]


def walked(ice, lane, told=(), surges=(), years=YEARS):
    """What a plain walk finds on a lane with these told years and surges, a dict of dicts by lanes."""
    slope = [ice.height(lane, place) for place in range(ice.length(lane))]
    return Walk(slope, ice.rows(), years, told, dict(surges).get(lane, {}))


def later_rows(rows, years):
    """Rows that begin with a year, so many years later."""
    return [(row[0] + years, *row[1:]) for row in rows]
