"""The lives of columns: what falls on them and what the sun takes, year by year, and what lies on them."""

from firnfall.piles import laid, taken
from firnfall.rides import ride_by, ridden, span
from firnfall.weather import change


def life(ice, lane, mark):
    """Tell a row `(year, place, change, depth)` for each year in which a column is on the lane."""
    years = span(ice, lane, mark)
    if years is None:
        return []
    first, last = years
    surges = ice.surges(lane)
    leaps = dict(surges)
    place = ride_by(surges, first) - mark
    rows = []
    lying = 0
    # A column is on its lane for no more years than the lane has places, however far off they are.
    for year in range(first, last + 1):
        moved = max(-lying, change(ice.sky(year), ice.height(lane, place)))
        lying += moved
        rows.append((year, place, moved, lying))
        place += 1 + leaps.get(year + 1, 0)
    return rows


def parted(ice, lane, place, year):
    """Tell the life of the column on a place in a year: its rows ahead of this year, and those from it on."""
    ice.check_place(lane, place)
    rows = life(ice, lane, ridden(ice, lane, year) - place)
    lived = year - rows[0][0]
    return (rows[:lived], rows[lived:])


def pile(ice, lane, place, year):
    """Tell the pile on a place at the end of a year."""
    ahead, onward = parted(ice, lane, place, year)
    runs = []
    for when, where, moved, lying in ahead + onward[:1]:
        if moved > 0:
            runs = laid(runs, (when, where, moved))
        else:
            runs = taken(runs, -moved)[0]
    return runs
