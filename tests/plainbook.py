"""A book as plain as can be: it keeps the deeds alone, and goes through all of them for each question."""

import re

from firnfall.book import Book
from firnfall.ice import Ice
from firnfall.valley import heights, lanes

COUNTS = {
    "round": 1, "year": 4, "plain": 1, "surge": 3, "calm": 2, "cliff": 3, "level": 2, "stone": 4, "amend": 4,
    "strike": 1, "found": 6, "lost": 1,
}


def is_weather(line, snow, sun):
    return line in range(101) and snow in range(10) and sun in range(10)


class PlainBook:
    """What a book keeps, gathered from the deeds that stand."""

    def __init__(self, reaches, rows):
        self.reaches, self.rows = list(reaches), list(rows)
        self.lengths = [len(heights(reaches, lane)) for lane in range(len(lanes(reaches)))]
        self.done, self.undone = [], []

    def kept(self):
        """The round, and dicts of the told years, the surges, the cliffs, the stones and the finds."""
        rows, years, surges, cliffs, stones, finds = self.rows, {}, {}, {}, {}, {}
        for word, *things in self.done:
            if word == "round":
                rows = list(things[0])
            elif word == "year":
                years[things[0]] = tuple(things[1:])
            elif word == "plain":
                del years[things[0]]
            elif word == "surge":
                surges[things[0], things[1]] = things[2]
            elif word == "calm":
                del surges[things[0], things[1]]
            elif word == "cliff":
                cliffs[things[0], things[1]] = things[2]
            elif word == "level":
                del cliffs[things[0], things[1]]
            elif word in ("stone", "amend"):
                stones[things[0]] = tuple(things[1:])
            elif word == "strike":
                del stones[things[0]]
            elif word == "found":
                finds[things[0]] = tuple(things[1:])
            elif word == "lost":
                del finds[things[0]]
        return rows, years, surges, cliffs, stones, finds

    def do(self, deed):
        """Do a deed, or tell the name of its refusal."""
        refusal = self.refusal(deed)
        if refusal is None:
            self.done.append(deed)
            self.undone = []
        return refusal

    def back(self):
        if not self.done:
            return "NothingThere"
        self.undone.append(self.done.pop())
        return None

    def again(self):
        if not self.undone:
            return "NothingThere"
        self.done.append(self.undone.pop())
        return None

    def refusal(self, deed):
        """The name of the first refusal of a deed, or None."""
        if len(deed) == 0 or deed[0] not in COUNTS or len(deed) != 1 + COUNTS[deed[0]]:
            return "BadDeed"
        found = getattr(self, deed[0] + "_refusals")(*deed[1:])
        return found[0] if found else None

    def spot(self, lane, *place):
        """The refusals of a lane, and of a place of it where one is asked for."""
        if lane not in range(len(self.lengths)):
            return ["NoLane"]
        return ["NoPlace"] if place and place[0] not in range(self.lengths[lane]) else []

    def year(self, *years):
        fine = all(year in range(100) for year in years) and list(years) == sorted(years)
        return [] if fine else ["BadYear"]

    def rock(self, rock):
        return [] if re.fullmatch("[a-z]", rock) else ["BadRock"]

    def name(self, name, names):
        if not re.fullmatch("[a-z]{1,8}", name):
            return ["BadName"]
        return ["Taken"] if name in names else []

    def full(self, table, key, most):
        return ["Full"] if key not in table and len(table) == most else []

    def round_refusals(self, rows):
        return [] if len(rows) in range(1, 13) and all(is_weather(*row) for row in rows) else ["BadRound"]

    def year_refusals(self, year, line, snow, sun):
        weather = [] if is_weather(line, snow, sun) else ["BadWeather"]
        return self.year(year) + weather + self.full(self.kept()[1], year, 40)

    def plain_refusals(self, year):
        return self.year(year) + ([] if year in self.kept()[1] else ["NotTold"])

    def surge_refusals(self, lane, year, many):
        surges = {key: value for key, value in self.kept()[2].items() if key[0] == lane}
        surge = [] if many in range(1, 10) else ["BadSurge"]
        return self.spot(lane) + self.year(year) + surge + self.full(surges, (lane, year), 12)

    def calm_refusals(self, lane, year):
        return self.spot(lane) + self.year(year) + ([] if (lane, year) in self.kept()[2] else ["NotTold"])

    def cliff_refusals(self, lane, place, rock):
        return self.spot(lane, place) + self.rock(rock) + self.full(self.kept()[3], (lane, place), 12)

    def level_refusals(self, lane, place):
        return self.spot(lane, place) + ([] if (lane, place) in self.kept()[3] else ["NotTold"])

    def stone_refusals(self, name, lane, place, year):
        stones = self.kept()[4]
        return self.name(name, stones) + self.spot(lane, place) + self.year(year) + self.full(stones, name, 20)

    def amend_refusals(self, name, lane, place, year):
        known = [] if name in self.kept()[4] else ["NoName"]
        return known + self.spot(lane, place) + self.year(year)

    def strike_refusals(self, name):
        return [] if name in self.kept()[4] else ["NoName"]

    def found_refusals(self, name, lane, place, first, last, rock):
        finds = self.kept()[5]
        years = self.year(first, last)
        return self.name(name, finds) + self.spot(lane, place) + years + self.rock(rock) + self.full(finds, name, 12)

    def lost_refusals(self, name):
        return [] if name in self.kept()[5] else ["NoName"]

    def page(self):
        """The page, row by row."""
        rows, years, surges, cliffs, stones, finds = self.kept()
        lines = ["firn"]
        lines += ["reach " + " ".join(str(part) for part in (to, *slope)) for to, slope in self.reaches]
        lines += ["weather {} {} {}".format(*row) for row in rows]
        lines += ["year {} {} {} {}".format(year, *row) for year, row in sorted(years.items())]
        lines += ["surge {} {} {}".format(*key, many) for key, many in sorted(surges.items())]
        lines += ["cliff {} {} {}".format(*key, rock) for key, rock in sorted(cliffs.items())]
        lines += ["stone {} {} {} {}".format(name, *fall) for name, fall in sorted(stones.items())]
        lines += ["found {} {} {} {} {} {}".format(name, *find) for name, find in sorted(finds.items())]
        return "\n".join(lines)

    def ice(self):
        """An Ice of what is kept."""
        rows, years, surges, cliffs, stones, finds = self.kept()
        ice = Ice(self.reaches, rows)
        for year, row in years.items():
            ice.tell(year, row)
        for (lane, year), many in surges.items():
            ice.surge(lane, year, many)
        return ice

    def told_anew(self):
        """A Book that was told just what is kept, each kind from the last to the first."""
        rows, years, surges, cliffs, stones, finds = self.kept()
        book = Book(self.reaches, rows)
        deeds = [("found", name, *find) for name, find in finds.items()]
        deeds += [("stone", name, *fall) for name, fall in stones.items()]
        deeds += [("cliff", *key, rock) for key, rock in cliffs.items()]
        deeds += [("surge", *key, many) for key, many in surges.items()]
        deeds += [("year", year, *row) for year, row in years.items()]
        for deed in deeds:
            book.do(deed)
        return book
