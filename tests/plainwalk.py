"""Goes along a lane year by year, place by place and hand by hand: slow, and as plain as can be."""


class Walk:
    """What a lane does in the years from 0 on.

    `labels[year][place]` is the mark of the column there, `columns[year][place]` the hands that lie there at the
    year's end from the lowest to the top, each as `(year, place, layer)` of its fall, `changes[year][place]` the
    hands that fell there in that year, or minus those that the sun took, `gone[year]` the hands that went off at the
    end in that year, and `ends` the end of each hand that has ended.
    """

    def __init__(self, slope, rows, years, told=(), surges=()):
        self.slope, self.rows, self.years = list(slope), list(rows), years
        self.told, self.surges = dict(told), dict(surges)
        self.labels, self.columns, self.changes, self.gone, self.ends = [], [], [], [], {}
        # At a ride of nought a column's mark is minus its place.
        labels = [-place for place in range(len(self.slope))]
        columns = [[] for place in self.slope]
        for year in range(years):
            off = []
            for step in range(self.surges.get(year, 0) + (1 if year else 0)):
                off += columns[-1]
                labels = [labels[0] + 1] + labels[:-1]
                columns = [[]] + columns[:-1]
            for hand in off:
                self.ends[hand] = ("off", year)
            columns, changes = self.weathered(columns, year)
            self.labels.append(labels)
            self.columns.append(columns)
            self.changes.append(changes)
            self.gone.append(len(off))

    def weathered(self, columns, year):
        """The columns behind the weather of a year, and what it did on each place."""
        line, snow, sun = self.told[year] if year in self.told else self.rows[year % len(self.rows)]
        behind, changes = [], []
        for place, height in enumerate(self.slope):
            hands = list(columns[place])
            before = len(hands)
            if height >= line:
                for layer in range(snow):
                    hands.append((year, place, layer))
            else:
                for turn in range(sun):
                    if hands:
                        self.ends[hands.pop()] = ("melt", year, place, turn)
            behind.append(hands)
            changes.append(len(hands) - before)
        return behind, changes

    def runs(self, place, year):
        """The pile on a place, its single hands gathered into runs."""
        found = []
        for when, where, layer in self.columns[year][place]:
            if found and found[-1][:2] == (when, where):
                found[-1] = (when, where, found[-1][2] + 1)
            else:
                found.append((when, where, 1))
        return found

    def years_of(self, label):
        """The pairs of each walked year in which a column is on the lane, and its place."""
        return [(year, labels.index(label)) for year, labels in enumerate(self.labels) if label in labels]

    def life(self, label):
        """The rows of a column's life, as far as the years were walked."""
        return [
            (year, place, self.changes[year][place], len(self.columns[year][place]))
            for year, place in self.years_of(label)
        ]

    def stone(self, place, year):
        """The way of a stone and its rest, None where the walk ends ahead of it."""
        label = self.labels[year][place]
        lower = set(self.columns[year][place])
        way = []
        for when in range(year, self.years):
            if label not in self.labels[when]:
                return way, ("off", when)
            where = self.labels[when].index(label)
            hands = self.columns[when][where]
            beneath = len([hand for hand in hands if hand in lower])
            way.append((when, where, len(hands) - beneath, beneath))
            if not hands:
                return way, ("left", when, where)
        return way, None

    def snout(self, year):
        """The greatest place with ice at the end of a year, or None."""
        found = None
        for place, hands in enumerate(self.columns[year]):
            if hands:
                found = place
        return found

    def sums(self, year):
        """What falls, melts, goes off and lies on the lane in a year."""
        fallen = sum(change for change in self.changes[year] if change > 0)
        melted = sum(-change for change in self.changes[year] if change < 0)
        return (fallen, melted, self.gone[year], sum(len(hands) for hands in self.columns[year]))
