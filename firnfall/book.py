"""The book of a glacier: what was told of it, deed by deed, and what follows from that."""

from firnfall.errors import BadDeed, BadName, BadRock, BadYear, Full, NoName, NotTold, NothingThere, Taken
from firnfall.finds import brought
from firnfall.ice import Ice, check_asked, check_told
from firnfall.stones import rest, way

MOST_YEARS = 40
MOST_SURGES = 12
MOST_CLIFFS = 12
MOST_STONES = 20
MOST_FINDS = 12
LONGEST_NAME = 8

# What a book keeps is a tuple of an Ice, of cliffs by lane and place, and of stones and finds by names. Deeds change
# none of these but make others, so that what was kept before stays as it was, to be taken back or for a twin.


def has_letters(text, many):
    """Tell whether a text has one to so many letters from a to z and nothing else."""
    return 1 <= len(text) <= many and all(["a" <= sign <= "z" for sign in text])


def check_rock(rock):
    """Refuse a text that is no rock."""
    if not has_letters(rock, 1):
        raise BadRock("no rock")


def check_new(names, name):
    """Refuse a text that is no name, then one that is among these names."""
    if not has_letters(name, LONGEST_NAME):
        raise BadName("no name")
    if name in names:
        raise Taken("this name is taken")


def check_known(names, name):
    """Refuse a text that is not among these names."""
    if name not in names:
        raise NoName("nothing has this name")


def check_room(many, most):
    """Refuse to keep more than may be kept."""
    if many > most:
        raise Full("no more are kept")


def check_fall(ice, lane, place, year):
    """Refuse a lane, a place or a year that is none for a stone's fall."""
    ice.check_place(lane, place)
    check_told(year)


def with_thing(table, key, thing):
    """Tell a dict with one thing more, or with another thing by this key."""
    other = dict(table)
    other[key] = thing
    return other


def without(table, key):
    """Tell a dict without the thing that it has by this key."""
    other = dict(table)
    del other[key]
    return other


def turn_round(kept, things):
    """Tell what is kept with another round."""
    ice, cliffs, stones, finds = kept
    other = ice.twin()
    other.turn(things[0])
    return (other, cliffs, stones, finds)


def tell_year(kept, things):
    """Tell what is kept with a year's weather told, also anew."""
    ice, cliffs, stones, finds = kept
    other = ice.twin()
    other.tell(things[0], tuple(things[1:]))
    check_room(len(other.told()), MOST_YEARS)
    return (other, cliffs, stones, finds)


def untell_year(kept, things):
    """Tell what is kept with a year's weather told no more."""
    ice, cliffs, stones, finds = kept
    other = ice.twin()
    other.plain(things[0])
    return (other, cliffs, stones, finds)


def tell_surge(kept, things):
    """Tell what is kept with a surge, also another one in its year."""
    ice, cliffs, stones, finds = kept
    lane, year, many = things
    other = ice.twin()
    other.surge(lane, year, many)
    check_room(len(other.surges(lane)), MOST_SURGES)
    return (other, cliffs, stones, finds)


def calm_surge(kept, things):
    """Tell what is kept without a surge."""
    ice, cliffs, stones, finds = kept
    lane, year = things
    other = ice.twin()
    other.calm(lane, year)
    return (other, cliffs, stones, finds)


def raise_cliff(kept, things):
    """Tell what is kept with a cliff, also one of another rock."""
    ice, cliffs, stones, finds = kept
    lane, place, rock = things
    ice.check_place(lane, place)
    check_rock(rock)
    others = with_thing(cliffs, (lane, place), rock)
    check_room(len(others), MOST_CLIFFS)
    return (ice, others, stones, finds)


def level_cliff(kept, things):
    """Tell what is kept without a cliff."""
    ice, cliffs, stones, finds = kept
    lane, place = things
    ice.check_place(lane, place)
    if (lane, place) not in cliffs:
        raise NotTold("there is no cliff")
    return (ice, without(cliffs, (lane, place)), stones, finds)


def drop_stone(kept, things):
    """Tell what is kept with a stone more."""
    ice, cliffs, stones, finds = kept
    name, lane, place, year = things
    check_new(stones, name)
    check_fall(ice, lane, place, year)
    others = with_thing(stones, name, (lane, place, year))
    check_room(len(others), MOST_STONES)
    return (ice, cliffs, others, finds)


def amend_stone(kept, things):
    """Tell what is kept with a stone that fell otherwise."""
    ice, cliffs, stones, finds = kept
    name, lane, place, year = things
    check_known(stones, name)
    check_fall(ice, lane, place, year)
    return (ice, cliffs, with_thing(stones, name, (lane, place, year)), finds)


def strike_stone(kept, things):
    """Tell what is kept without a stone."""
    ice, cliffs, stones, finds = kept
    check_known(stones, things[0])
    return (ice, cliffs, without(stones, things[0]), finds)


def add_find(kept, things):
    """Tell what is kept with a find more."""
    ice, cliffs, stones, finds = kept
    name, lane, place, first, last, rock = things
    check_new(finds, name)
    check_fall(ice, lane, place, first)
    check_told(last)
    if last < first:
        raise BadYear("the last year is ahead of the first one")
    check_rock(rock)
    others = with_thing(finds, name, (lane, place, first, last, rock))
    check_room(len(others), MOST_FINDS)
    return (ice, cliffs, stones, others)


def lose_find(kept, things):
    """Tell what is kept without a find."""
    ice, cliffs, stones, finds = kept
    check_known(finds, things[0])
    return (ice, cliffs, stones, without(finds, things[0]))


DEEDS = {
    "round": turn_round, "year": tell_year, "plain": untell_year, "surge": tell_surge, "calm": calm_surge,
    "cliff": raise_cliff, "level": level_cliff, "stone": drop_stone, "amend": amend_stone, "strike": strike_stone,
    "found": add_find, "lost": lose_find,
}
# The kinds of the things of each deed: n for a number, w for a word, r for the rows of a round.
DEED_KINDS = {
    "round": "r", "year": "nnnn", "plain": "n", "surge": "nnn", "calm": "nn", "cliff": "nnw", "level": "nn",
    "stone": "wnnn", "amend": "wnnn", "strike": "w", "found": "wnnnnw", "lost": "w",
}


class Book:
    """What was told of a glacier, with the deeds that can be taken back and done again."""

    def __init__(self, reaches, rows):
        self.kept = (Ice(reaches, rows), {}, {}, {})
        self.past = []
        self.undone = []

    def do(self, deed):
        """Do a deed, or refuse it and change nothing."""
        if not deed or deed[0] not in DEEDS or len(deed) - 1 != len(DEED_KINDS[deed[0]]):
            raise BadDeed("no deed has this form")
        done = DEEDS[deed[0]]
        others = done(self.kept, deed[1:])
        self.past.append(self.kept)
        self.kept = others
        self.undone = []

    def back(self):
        """Take the last deed that stands back."""
        if not self.past:
            raise NothingThere("there is no deed to take back")
        self.undone.append(self.kept)
        self.kept = self.past.pop()

    def again(self):
        """Do again what was taken back last."""
        if not self.undone:
            raise NothingThere("there is no deed to do again")
        self.past.append(self.kept)
        self.kept = self.undone.pop()

    def forget(self):
        """Forget all that can be taken back and done again."""
        self.past = []
        self.undone = []

    def twin(self):
        """Tell another Book that has all that this one has, of which each goes its own way."""
        ice = self.kept[0]
        other = Book(ice.reaches(), ice.rows())
        other.kept = self.kept
        other.past = list(self.past)
        other.undone = list(self.undone)
        return other

    def ice(self):
        """Tell an Ice of what the book keeps, of which each goes its own way."""
        return self.kept[0].twin()

    def cliffs(self):
        """Tell the list of rows `(lane, place, rock)`, by lanes and places."""
        cliffs = self.kept[1]
        return [spot + (cliffs[spot],) for spot in sorted(cliffs)]

    def stones(self):
        """Tell the list of rows `(name, lane, place, year)`, by names."""
        stones = self.kept[2]
        return [(name,) + stones[name] for name in sorted(stones)]

    def finds(self):
        """Tell the list of rows `(name, lane, place, first, last, rock)`, by names."""
        finds = self.kept[3]
        return [(name,) + finds[name] for name in sorted(finds)]

    def rest(self, name):
        """Tell where and when a stone is left, or when it goes off at the end."""
        lane, place, year = self.fall_of(name)
        return rest(self.kept[0], lane, place, year)

    def way(self, name):
        """Tell the way of a stone."""
        lane, place, year = self.fall_of(name)
        return way(self.kept[0], lane, place, year)

    def fall_of(self, name):
        """Tell the lane, the place and the year of a stone's fall."""
        check_known(self.kept[2], name)
        return self.kept[2][name]

    def piled(self, lane, place, year):
        """Tell the names of the stones that ride with the column on a place at the end of a year."""
        self.kept[0].check_place(lane, place)
        check_asked(year)
        found = []
        for name, which, where, when in self.stones():
            if which == lane and (year, place) in [row[:2] for row in self.way(name)]:
                found.append((when, name))
        return [name for when, name in sorted(found)]

    def brought(self):
        """Tell how all finds are brought together by names, or else the names of some that can't be."""
        names = [find[0] for find in self.finds()]
        word, told = brought(self.kept[0], self.cliffs(), [find[1:] for find in self.finds()])
        if word == "none":
            return (word, [names[number] for number in told])
        return (word, [(name,) + fall for name, fall in zip(names, told)])
