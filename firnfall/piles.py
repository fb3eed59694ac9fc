"""Piles of hands of ice: lists of runs `(year, place, many)` from the lowest to the top."""


def laid(runs, run):
    """Tell the pile with a run more on the top."""
    return runs + [run]


def taken(runs, many):
    """Tell the pile without so many hands of its top, and the runs that were taken, the topmost first."""
    left = list(runs)
    off = []
    while left and many > 0:
        year, place, hands = left.pop()
        part = min(hands, many)
        off.append((year, place, part))
        if part < hands:
            left.append((year, place, hands - part))
        many -= part
    return (left, off)


def depth(runs):
    """Tell how many hands a pile has."""
    return sum([many for year, place, many in runs])
