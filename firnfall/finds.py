"""Stones that are found: the falls that can have brought them, one by one and together."""

from firnfall.lives import life
from firnfall.rides import ride_by


def falls_for(ice, cliffs, find):
    """Tell the list of falls `(year, place)` that can have brought a find, rising."""
    lane, place, first, last, rock = find
    places = [where for which, where, kind in cliffs if which == lane and kind == rock]
    surges = ice.surges(lane)
    falls = []
    for year in range(first, last + 1):
        rows = life(ice, lane, ride_by(surges, year) - place)
        falls += [fall for fall in left_in(rows, year) if fall[1] in places]
    return sorted(falls)


def left_in(rows, year):
    """Tell the years and places in which stones fall on the column of this life that are left in a year."""
    riding = []
    for when, where, moved, lying in rows:
        riding.append((when, where))
        if when == year:
            return riding if lying == 0 else []
        if lying == 0:
            riding = []
    return []


def choices(ice, cliffs, finds):
    """Tell, for each find, the list of falls that can have brought it, each with its lane ahead."""
    return [[(find[0],) + fall for fall in falls_for(ice, cliffs, find)] for find in finds]


def brought(ice, cliffs, finds):
    """Tell how all finds are brought together, or else which of them can't be."""
    word, told = matched(choices(ice, cliffs, finds))
    if word == "none":
        return (word, told)
    return (word, [fall[1:] for fall in told])


def may_have(ice, cliffs, finds, number):
    """Tell the list of falls that a find has in some way in which all finds are brought together, rising."""
    options = choices(ice, cliffs, finds)
    word, told = matched(options)
    if word == "none":
        return []
    # What no find holds is free for this one; only for the few that are held all are matched anew.
    return [fall[1:] for fall in options[number] if fall not in told or holds_with(options, number, fall)]


def holds_with(options, number, fall):
    """Tell whether all finds can be brought together while this one has this fall."""
    return matched(options[:number] + [[fall]] + options[number + 1:])[0] == "all"


def matched(options):
    """Tell `("all", falls)`, another fall for each row of falls, or `("none", numbers)` of too narrow rows."""
    owners = {}
    held = {}
    for number in range(len(options)):
        crowd = seat(options, owners, held, number)
        if crowd:
            return ("none", sorted(crowd))
    return ("all", [held[number] for number in range(len(options))])


def seat(options, owners, held, number):
    """Give a row one of its falls, moving others on to free ones, or tell the rows that are too narrow together.

    Each row that is asked to move on has its fall wanted by one asked before it. So where none finds a free fall,
    all that were asked share one fall too few, and without any one of them the others could move up.
    """
    asked = [number]
    wanted_by = {}
    at = 0
    while at < len(asked):
        for fall in options[asked[at]]:
            if fall in wanted_by:
                continue
            wanted_by[fall] = asked[at]
            if fall not in owners:
                move_up(owners, held, wanted_by, fall)
                return []
            asked.append(owners[fall])
        at += 1
    return asked


def move_up(owners, held, wanted_by, fall):
    """Give a free fall to the row that wants it, what that one held to the row that wants this, and so on."""
    while fall is not None:
        taker = wanted_by[fall]
        left = held.get(taker)
        owners[fall] = taker
        held[taker] = fall
        fall = left
