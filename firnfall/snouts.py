"""The snouts of lanes: how far down there is ice, year by year."""

from firnfall.ice import check_asked
from firnfall.years import course, settled, year_row


def snout(ice, lane, year):
    """Tell the greatest place of a lane that has ice at the end of a year, or None."""
    ice.check_lane(lane)
    check_asked(year)
    return lowest_ice(year_row(ice, lane, year))


def lowest_ice(row):
    """Tell the greatest place that has ice in a year's row, or None."""
    fallen, melted, gone, depths = row
    return max([place for place, lying in enumerate(depths) if lying > 0], default=None)


def snouts(ice, lane):
    """Tell how the row of a lane's snouts comes round: a beginning, and the round behind it."""
    ice.check_lane(lane)
    start = settled(ice, lane)
    places = [lowest_ice(row) for row in course(ice, lane, 0, start + len(ice.rows()) - 1)]
    beginning = places[:start]
    again = shortest(places[start:])
    # A beginning that ends as the round does can leave its end to a round that begins one year sooner.
    while beginning and beginning[-1] == again[-1]:
        again = [beginning.pop()] + again[:-1]
    return (beginning, again)


def shortest(places):
    """Tell the shortest row that gives this one when it comes again and again."""
    for many in range(1, len(places)):
        if len(places) % many == 0 and places == places[:many] * (len(places) // many):
            return places[:many]
    return places
