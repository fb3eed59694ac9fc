"""Sums of the hands of ice of whole lanes: those of a year, and so far."""

from firnfall.ice import check_asked
from firnfall.years import first_years, near_year, settled


def sums(ice, lane, year):
    """Tell `(fallen, melted, gone, lying)` of a lane in a year."""
    ice.check_lane(lane)
    check_asked(year)
    near = near_year(ice, lane, year)
    fallen, melted, gone, depths = first_years(ice, lane, near + 1)[near]
    return (fallen, melted, gone, sum(depths))


def so_far(ice, lane, year):
    """Tell `(fallen, melted, gone, lying)` of a lane, the first three from the year 0 up to this year."""
    ice.check_lane(lane)
    check_asked(year)
    start = settled(ice, lane)
    near = near_year(ice, lane, year)
    rows = first_years(ice, lane, start + len(ice.rows()))
    rounds = (year - near) // len(ice.rows())
    up_to = totals(rows[:near + 1])
    each = totals(rows[start:])
    fallen, melted, gone = [some + rounds * more for some, more in zip(up_to, each)]
    return (fallen, melted, gone, sum(rows[near][3]))


def totals(rows):
    """Tell what fell, what melted and what is gone in the years of these rows together."""
    return [sum([row[part] for row in rows]) for part in range(3)]
