"""Sums of the hands of ice of whole lanes: those of a year, and so far."""

from firnfall.ice import check_asked
from firnfall.years import course, settled, year_row


def sums(ice, lane, year):
    """Tell `(fallen, melted, gone, lying)` of a lane in a year."""
    ice.check_lane(lane)
    check_asked(year)
    fallen, melted, gone, depths = year_row(ice, lane, year)
    return (fallen, melted, gone, sum(depths))


def so_far(ice, lane, year):
    """Tell `(fallen, melted, gone, lying)` of a lane, the first three from the year 0 up to this year."""
    ice.check_lane(lane)
    check_asked(year)
    start = settled(ice, lane)
    many = len(ice.rows())
    # Each whole round behind the settled year adds alike, so only one of them is gone through.
    rounds = max(0, year - start) // many
    rows = course(ice, lane, 0, start + many - 1)
    up_to = rows[:year - rounds * many + 1]
    fallen, melted, gone = [total(up_to, part) + rounds * total(rows[start:], part) for part in range(3)]
    return (fallen, melted, gone, sum(up_to[-1][3]))


def total(rows, part):
    """Tell the sum of one part of these rows."""
    return sum([row[part] for row in rows])
