"""Where each hand of ice ends, and where each hand that the sun takes fell."""

from firnfall.errors import BadHand
from firnfall.lives import parted


def end_of(ice, lane, place, year, layer):
    """Tell how the hand of this layer that falls on a place in a year ends."""
    onward = parted(ice, lane, place, year)[1]
    fell, lying = onward[0][2:]
    if not 0 <= layer < fell:
        raise BadHand("no such hand falls there then")
    beneath = lying - fell + layer
    for when, where, moved, left in onward:
        # Only the top is taken, so a hand lasts just as long as more lie there than are beneath it.
        if left <= beneath:
            return ("melt", when, where, left - moved - 1 - beneath)
    return ("off", onward[-1][0] + 1)


def birth_of(ice, lane, place, year, turn):
    """Tell `(year, place, layer)` of the hand that the sun takes on a place in a year at this turn."""
    ahead, onward = parted(ice, lane, place, year)
    moved, left = onward[0][2:]
    if not 0 <= turn < -moved:
        raise BadHand("the sun takes no such hand there then")
    beneath = left - moved - 1 - turn
    # From its fall on more lay there than are beneath it, so it fell the last time that there were no more.
    when, where, fell, lying = [row for row in ahead if row[3] - row[2] <= beneath][-1]
    return (when, where, beneath - (lying - fell))
