"""Goes along a lane year by year, place by place and hand by hand: slow, and as plain as can be."""


class Walk:
    """What a lane does in the years from 0 on.

    `labels[year][place]` is the mark of the column there, `columns[year][place]` the hands that lie there at the
    year's end from the lowest to the top, each as the pair `(year, place)` of its fall, and `changes[year][place]`
    the hands that fell there in that year, or minus those that the sun took.
    """

    def __init__(self, slope, rows, years, told=(), surges=()):
        self.slope, self.rows = list(slope), list(rows)
        self.told, self.surges = dict(told), dict(surges)
        self.labels, self.columns, self.changes = [], [], []
        # At a ride of nought a column's mark is minus its place.
        labels = [-place for place in range(len(self.slope))]
        columns = [[] for place in self.slope]
        for year in range(years):
            for step in range(self.surges.get(year, 0) + (1 if year else 0)):
                labels = [labels[0] + 1] + labels[:-1]
                columns = [[]] + columns[:-1]
            columns, changes = self.weathered(columns, year)
            self.labels.append(labels)
            self.columns.append(columns)
            self.changes.append(changes)

    def weathered(self, columns, year):
        """The columns behind the weather of a year, and what it did on each place."""
        line, snow, sun = self.told[year] if year in self.told else self.rows[year % len(self.rows)]
        behind, changes = [], []
        for place, height in enumerate(self.slope):
            hands = list(columns[place])
            before = len(hands)
            if height >= line:
                for hand in range(snow):
                    hands.append((year, place))
            else:
                for hand in range(sun):
                    if hands:
                        hands.pop()
            behind.append(hands)
            changes.append(len(hands) - before)
        return behind, changes

    def runs(self, place, year):
        """The pile on a place, its single hands gathered into runs."""
        found = []
        for hand in self.columns[year][place]:
            if found and found[-1][:2] == hand:
                found[-1] = (*hand, found[-1][2] + 1)
            else:
                found.append((*hand, 1))
        return found

    def years_of(self, label):
        """The pairs of each walked year in which a column is on the lane, and its place."""
        return [(year, labels.index(label)) for year, labels in enumerate(self.labels) if label in labels]

    def life(self, label):
        """The rows of a column's life, as far as the years were walked."""
        return [
            (year, place, self.changes[year][place], len(self.columns[year][place]))
            for year, place in self.years_of(label)
        ]
