"""The lives of columns: what falls on them and what the sun takes, year by year, and what lies on them."""

from firnfall.piles import laid, taken
from firnfall.rides import ride_by, ridden, span
from firnfall.weather import change


def life(ice, lane, mark):
    """Tell a row `(year, place, change, depth)` for each year in which a column is on the lane."""
    years = span(ice, lane, mark)
    if years is None:
        return []
    first, last = years
    surges = ice.surges(lane)
    rows = []
    lying = 0
    # A column is on its lane for no more years than the lane has places, however far off they are.
    for year in range(first, last + 1):
        place = ride_by(surges, year) - mark
        moved = max(-lying, change(ice.sky(year), ice.height(lane, place)))
        lying += moved
        rows.append((year, place, moved, lying))
    return rows


def pile(ice, lane, place, year):
    """Tell the pile on a place at the end of a year."""
    ice.check_place(lane, place)
    runs = []
    for when, where, moved, lying in life(ice, lane, ridden(ice, lane, year) - place):
        if when > year:
            break
        if moved > 0:
            runs = laid(runs, (when, where, moved))
        else:
            runs = taken(runs, -moved)[0]
    return runs
