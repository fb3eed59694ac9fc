import copy
import unittest

from firnfall.weather import change, is_round, is_weather

FAR = 10 ** 6000


class IsWeatherTest(unittest.TestCase):
    def holds(self, *row):
        with self.subTest(row=[number if abs(number) < FAR else "far" for number in row]):
            self.assertIs(is_weather(row), True)

    def fails(self, *row):
        with self.subTest(row=[number if abs(number) < FAR else "far" for number in row]):
            self.assertIs(is_weather(row), False)

    def test_within_the_bounds(self):
        self.holds(50, 3, 4)
        self.holds(1, 1, 1)
        self.holds(99, 8, 8)

    def test_every_row_within_the_bounds(self):
        for line in range(0, 101):
            for snow in range(0, 10):
                for sun in range(0, 10):
                    self.assertIs(is_weather((line, snow, sun)), True)

    def test_just_at_a_bound(self):
        for row in [(0, 5, 5), (100, 5, 5), (50, 0, 5), (50, 9, 5), (50, 5, 0), (50, 5, 9)]:
            self.holds(*row)
        self.holds(0, 0, 0)
        self.holds(100, 9, 9)

    def test_just_beyond_a_bound(self):
        for row in [(-1, 5, 5), (101, 5, 5), (50, -1, 5), (50, 10, 5), (50, 5, -1), (50, 5, 10)]:
            self.fails(*row)

    def test_far_beyond_a_bound(self):
        for number in (1000, -1000, 10 ** 41, -(10 ** 41), FAR, -FAR):
            self.fails(number, 5, 5)
            self.fails(50, number, 5)
            self.fails(50, 5, number)

    def test_snow_and_sun_have_not_the_bound_of_the_line(self):
        self.fails(50, 100, 5)
        self.fails(50, 5, 100)

    def test_several_beyond(self):
        self.fails(-1, -1, -1)
        self.fails(101, 10, 10)


class IsRoundTest(unittest.TestCase):
    def test_how_many_rows(self):
        for many in range(0, 30):
            with self.subTest(many=many):
                self.assertIs(is_round([(50, 3, 4)] * many), 1 <= many <= 12)

    def test_very_many_rows(self):
        self.assertIs(is_round([(50, 3, 4)] * 10000), False)

    def test_rows_that_differ(self):
        self.assertIs(is_round([(0, 0, 0), (100, 9, 9), (50, 3, 4)]), True)

    def test_one_row_that_is_no_weather(self):
        for bad in [(-1, 3, 4), (101, 3, 4), (50, -1, 4), (50, 10, 4), (50, 3, -1), (50, 3, 10), (FAR, 3, 4)]:
            self.assertIs(is_round([bad]), False)
            for many in (2, 3, 12):
                for place in range(many):
                    rows = [(50, 3, 4)] * many
                    rows[place] = bad
                    self.assertIs(is_round(rows), False)

    def test_the_list_stays_as_it_was(self):
        for rows in ([], [(50, 3, 4)], [(9, 1, 2), (3, 0, 0), (101, 1, 1)], [(50, 3, 4)] * 13):
            before = copy.deepcopy(rows)
            is_round(rows)
            self.assertEqual(rows, before)

    def test_nothing_is_kept_of_the_list(self):
        rows = [(50, 3, 4)]
        self.assertIs(is_round(rows), True)
        rows.append((101, 3, 4))
        self.assertIs(is_round(rows), False)
        rows.pop()
        self.assertIs(is_round(rows), True)


class ChangeTest(unittest.TestCase):
    def test_above_the_line_snow_falls(self):
        self.assertEqual(change((50, 3, 4), 51), 3)
        self.assertEqual(change((50, 3, 4), 99), 3)

    def test_at_the_line_snow_falls(self):
        self.assertEqual(change((50, 3, 4), 50), 3)

    def test_below_the_line_the_sun_takes(self):
        self.assertEqual(change((50, 3, 4), 49), -4)
        self.assertEqual(change((50, 3, 4), 0), -4)

    def test_a_line_of_nought_has_nothing_below_it(self):
        for height in (0, 1, 50, 99):
            self.assertEqual(change((0, 3, 4), height), 3)

    def test_a_line_of_a_hundred_has_nothing_above_it(self):
        for height in (0, 1, 50, 99):
            self.assertEqual(change((100, 3, 4), height), -4)

    def test_the_least_and_the_greatest_height(self):
        self.assertEqual(change((1, 3, 4), 0), -4)
        self.assertEqual(change((1, 3, 4), 1), 3)
        self.assertEqual(change((99, 3, 4), 99), 3)
        self.assertEqual(change((99, 3, 4), 98), -4)

    def test_no_snow(self):
        self.assertEqual(change((50, 0, 4), 50), 0)
        self.assertEqual(change((50, 0, 4), 49), -4)

    def test_no_sun(self):
        self.assertEqual(change((50, 3, 0), 49), 0)
        self.assertEqual(change((50, 3, 0), 50), 3)

    def test_every_snow_and_every_sun(self):
        for hands in range(10):
            self.assertEqual(change((50, hands, 5), 50), hands)
            self.assertEqual(change((50, 5, hands), 49), -hands)


if __name__ == "__main__":
    unittest.main()
