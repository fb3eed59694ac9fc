"""Stones that fall on the ice: their ways, where they are left, and when they are hidden."""

from firnfall.lives import parted


def way(ice, lane, place, year):
    """Tell a row `(year, place, above, beneath)` for each year of a stone's ride from its fall on."""
    onward = parted(ice, lane, place, year)[1]
    beneath = onward[0][3]
    rows = []
    for when, where, moved, lying in onward:
        # Only the top is taken: first what came above the stone, then what it lies on.
        beneath = min(beneath, lying)
        rows.append((when, where, lying - beneath, beneath))
        if lying == 0:
            break
    return rows


def rest(ice, lane, place, year):
    """Tell where and when a stone is left, or when it goes off at the end."""
    when, where, above, beneath = way(ice, lane, place, year)[-1]
    if above + beneath == 0:
        return ("left", when, where)
    return ("off", when + 1)


def hidden(ice, lane, place, year):
    """Tell the stretches of years in which a stone is hidden, as pairs of the first and the last year."""
    stretches = []
    for when, where, above, beneath in way(ice, lane, place, year):
        if above == 0:
            continue
        if stretches and stretches[-1][1] == when - 1:
            stretches[-1] = (stretches[-1][0], when)
        else:
            stretches.append((when, when))
    return stretches
