"""The years of a whole lane: what its first years do, and the near years that far ones are like."""

from firnfall.weather import change


def settled(ice, lane):
    """Tell a year from which on a lane does the same in each year as a whole round of weather later."""
    told = [year for year, row in ice.told()] + [year for year, many in ice.surges(lane)]
    # Behind the last told thing each column enters bare at the head and needs as many years as there are places.
    return max(told, default=-1) + 1 + ice.length(lane)


def near_year(ice, lane, year):
    """Tell a year at most one round behind the settled one in which a lane does the same as in this year."""
    start = settled(ice, lane)
    if year < start:
        return year
    return start + (year - start) % len(ice.rows())


def first_years(ice, lane, many):
    """Tell, for each of so many first years, a row `(fallen, melted, gone, depths)` of a lane."""
    slope = [ice.height(lane, place) for place in range(ice.length(lane))]
    leaps = dict(ice.surges(lane))
    depths = [0 for height in slope]
    rows = []
    for year in range(many):
        # All is bare ahead of the year 0, so that nothing tells whether it rode into it.
        steps = min(1 + leaps.get(year, 0), len(slope))
        gone = sum(depths[-steps:])
        depths = [0 for step in range(steps)] + depths[:-steps]
        moved = [max(-lying, change(ice.sky(year), height)) for lying, height in zip(depths, slope)]
        depths = [lying + hands for lying, hands in zip(depths, moved)]
        fallen = sum([hands for hands in moved if hands > 0])
        rows.append((fallen, fallen - sum(moved), gone, depths))
    return rows
