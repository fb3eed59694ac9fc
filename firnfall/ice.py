"""The ice of a valley: its lanes, its weather and the surges of its lanes."""

from firnfall.errors import BadRound, BadSurge, BadValley, BadWeather, BadYear, NoLane, NoPlace, NotTold
from firnfall.valley import heights, is_valley, lanes
from firnfall.weather import is_round, is_weather

LAST_TOLD = 99
LAST_ASKED = 10 ** 40
GREATEST_SURGE = 9


def check_told(year):
    """Refuse a number that is no year that may be told by a deed."""
    if not 0 <= year <= LAST_TOLD:
        # Here as below the number stays out of the words: Python writes none of very many digits.
        raise BadYear("no year that may be told")


def check_asked(year):
    """Refuse a number that is no year that may be asked for."""
    if not 0 <= year <= LAST_ASKED:
        raise BadYear("no year that may be asked for")


def check_round(rows):
    """Refuse a list of rows that is no round."""
    if not is_round(rows):
        raise BadRound("no round of weather")


class Ice:
    """A valley and a round, with the years and the surges that were told."""

    def __init__(self, reaches, rows):
        if not is_valley(reaches):
            raise BadValley("no valley")
        check_round(rows)
        self.valley = list(reaches)
        self.cycle = list(rows)
        self.slopes = [heights(reaches, lane) for lane in range(len(lanes(reaches)))]
        self.years = {}
        self.leaps = [{} for slope in self.slopes]

    def reaches(self):
        """Tell the list of the valley's reaches."""
        return list(self.valley)

    def rows(self):
        """Tell the list of the round's rows."""
        return list(self.cycle)

    def many(self):
        """Tell how many lanes there are."""
        return len(self.slopes)

    def check_lane(self, lane):
        """Refuse a number that is no lane."""
        if not 0 <= lane < len(self.slopes):
            raise NoLane("the valley has no such lane")

    def check_place(self, lane, place):
        """Refuse a number that is no lane, then one that is no place of it."""
        self.check_lane(lane)
        if not 0 <= place < len(self.slopes[lane]):
            raise NoPlace("the lane has no such place")

    def length(self, lane):
        """Tell how many places a lane has."""
        self.check_lane(lane)
        return len(self.slopes[lane])

    def height(self, lane, place):
        """Tell the height of a place of a lane."""
        self.check_place(lane, place)
        return self.slopes[lane][place]

    def tell(self, year, row):
        """Tell the weather of a year, also anew."""
        check_told(year)
        if not is_weather(row):
            raise BadWeather("no weather of a year")
        self.years[year] = row

    def plain(self, year):
        """Let the weather of a year be told no more."""
        check_told(year)
        if year not in self.years:
            raise NotTold("the weather of this year was not told")
        del self.years[year]

    def surge(self, lane, year, many):
        """Tell the surge of a lane in a year, also anew."""
        self.check_lane(lane)
        check_told(year)
        if not 1 <= many <= GREATEST_SURGE:
            raise BadSurge("no surge")
        self.leaps[lane][year] = many

    def calm(self, lane, year):
        """Let the surge of a lane in a year be no more."""
        self.check_lane(lane)
        check_told(year)
        if year not in self.leaps[lane]:
            raise NotTold("no surge of the lane was told for this year")
        del self.leaps[lane][year]

    def turn(self, rows):
        """Take another round."""
        check_round(rows)
        self.cycle = list(rows)

    def told(self):
        """Tell the list of pairs of each told year and its weather, rising."""
        return [(year, self.years[year]) for year in sorted(self.years)]

    def surges(self, lane):
        """Tell the list of pairs of each year in which a lane surges and the surge, rising."""
        self.check_lane(lane)
        return [(year, self.leaps[lane][year]) for year in sorted(self.leaps[lane])]

    def weather(self, year):
        """Tell the weather of a year that may be asked for."""
        check_asked(year)
        return self.sky(year)

    def sky(self, year):
        """Tell the weather of a year from 0 on, however late: columns live on behind the last year asked for."""
        return self.years.get(year, self.cycle[year % len(self.cycle)])

    def twin(self):
        """Tell another Ice that stands alike, of which each goes its own way."""
        other = Ice(self.valley, self.cycle)
        other.years = dict(self.years)
        other.leaps = [dict(leaps) for leaps in self.leaps]
        return other
