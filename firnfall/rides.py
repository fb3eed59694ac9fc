"""How far lanes ride, and where and when the columns of a lane stand on it."""

from firnfall.ice import check_asked


def ride_by(surges, year):
    """Tell the ride of a lane with these surges by a year from 0 on, however late."""
    return year + sum([many for when, many in surges if when <= year])


def earliest(surges, goal):
    """Tell the first year from 0 on by which a lane with these surges has ridden so far, or farther."""
    start = 0
    added = 0
    for year, many in surges:
        if goal - added < year:
            break
        start = year
        added += many
    # From one surge to the next the ride grows by one a year, so the year is reckoned, not sought.
    return max(start, goal - added)


def ridden(ice, lane, year):
    """Tell the ride of a lane by a year."""
    surges = ice.surges(lane)
    check_asked(year)
    return ride_by(surges, year)


def mark(ice, lane, place, year):
    """Tell the mark of the column that stands on a place in a year."""
    ice.check_place(lane, place)
    return ridden(ice, lane, year) - place


def stands(ice, lane, mark, year):
    """Tell the place on which a column stands in a year, or None where it isn't on the lane."""
    place = ridden(ice, lane, year) - mark
    return place if 0 <= place < ice.length(lane) else None


def span(ice, lane, mark):
    """Tell the first and the last year in which a column is on the lane, or None where it never is."""
    surges = ice.surges(lane)
    first = earliest(surges, mark)
    gone = earliest(surges, mark + ice.length(lane))
    return (first, gone - 1) if first < gone else None
