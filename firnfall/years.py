"""The years of a whole lane: what falls on it, melts, goes off and lies on it, and when all comes round."""

from firnfall.weather import change


def settled(ice, lane):
    """Tell a year from which on a lane does the same in each year as a whole round of weather later."""
    told = [year for year, row in ice.told()] + [year for year, many in ice.surges(lane)]
    # Behind the last told thing each column enters bare at the head and needs as many years as there are places.
    return max(told, default=-1) + 1 + ice.length(lane)


def course(ice, lane, first, last):
    """Tell a row `(fallen, melted, gone, depths)` for each of some years of a lane that is bare ahead of them."""
    slope = [ice.height(lane, place) for place in range(ice.length(lane))]
    leaps = dict(ice.surges(lane))
    depths = [0 for height in slope]
    rows = []
    for year in range(first, last + 1):
        # Nothing tells whether a bare lane rode into its first year.
        steps = min(1 + leaps.get(year, 0), len(slope))
        gone = sum(depths[-steps:])
        depths = [0 for step in range(steps)] + depths[:-steps]
        weather = ice.sky(year)
        moved = [max(-lying, change(weather, height)) for lying, height in zip(depths, slope)]
        depths = [lying + hands for lying, hands in zip(depths, moved)]
        fallen = sum([hands for hands in moved if hands > 0])
        rows.append((fallen, fallen - sum(moved), gone, depths))
    return rows


def year_row(ice, lane, year):
    """Tell the row `(fallen, melted, gone, depths)` of a lane in a year."""
    # What lies there, or goes off, came onto the lane in no more years than there are places.
    return course(ice, lane, max(0, year - ice.length(lane)), year)[-1]
