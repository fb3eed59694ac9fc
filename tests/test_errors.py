import unittest

from firnfall import errors
from firnfall.book import Book
from firnfall.ends import end_of
from firnfall.pages import read

NAMES = [
    "BadValley", "BadRound", "BadWeather", "BadYear", "BadSurge", "BadRock", "BadName", "BadHand", "BadDeed",
    "NoLane", "NoPlace", "NoName", "NotTold", "NothingThere", "Taken", "Full", "BadPage",
]


def named(name):
    return getattr(errors, name)


def made(name):
    return named(name)(3) if name == "BadPage" else named(name)("words")


class ErrorsTest(unittest.TestCase):
    def test_any_refusal_is_a_value_error(self):
        self.assertTrue(issubclass(errors.FirnError, ValueError))

    def test_every_class_stands_under_firn_error(self):
        for name in NAMES:
            with self.subTest(name=name):
                self.assertTrue(issubclass(named(name), errors.FirnError))
                self.assertIsNot(named(name), errors.FirnError)
                self.assertEqual(named(name).__name__, name)

    def test_none_stands_under_another(self):
        for name in NAMES:
            for other in NAMES:
                if name != other:
                    with self.subTest(name=name, other=other):
                        self.assertFalse(issubclass(named(name), named(other)))

    def test_firn_error_stands_under_none_of_them(self):
        for name in NAMES:
            with self.subTest(name=name):
                self.assertFalse(issubclass(errors.FirnError, named(name)))

    def test_each_is_raised_and_taken_by_its_name(self):
        for name in NAMES:
            with self.subTest(name=name):
                with self.assertRaises(named(name)):
                    raise made(name)
                with self.assertRaises(errors.FirnError):
                    raise made(name)

    def test_bad_page_bears_its_row(self):
        for row in (0, 1, 7, 200):
            with self.subTest(row=row):
                self.assertEqual(errors.BadPage(row).row, row)

    def test_bad_page_bears_its_row_when_it_is_taken(self):
        with self.assertRaises(errors.BadPage) as taken:
            raise errors.BadPage(5)
        self.assertEqual(taken.exception.row, 5)

    def test_bad_pages_keep_their_own_rows(self):
        first, second = errors.BadPage(1), errors.BadPage(2)
        self.assertEqual((first.row, second.row), (1, 2))

    def test_each_is_made_somewhere(self):
        valley, rows = [(-1, (60, 10))], [(50, 3, 2)]
        full = Book(valley, rows)
        for year in range(40):
            full.do(("year", year, 5, 5, 5))
        full.do(("stone", "ann", 0, 0, 5))
        asks = {
            "BadValley": lambda: Book([], rows),
            "BadRound": lambda: Book(valley, []),
            "BadWeather": lambda: full.do(("year", 0, 101, 5, 5)),
            "BadYear": lambda: full.do(("year", 100, 5, 5, 5)),
            "BadSurge": lambda: full.do(("surge", 0, 0, 10)),
            "BadRock": lambda: full.do(("cliff", 0, 0, "A")),
            "BadName": lambda: full.do(("stone", "", 0, 0, 5)),
            "BadHand": lambda: end_of(full.ice(), 0, 0, 5, 9),
            "BadDeed": lambda: full.do(()),
            "NoLane": lambda: full.do(("calm", 1, 0)),
            "NoPlace": lambda: full.do(("level", 0, 2)),
            "NoName": lambda: full.rest("bob"),
            "NotTold": lambda: full.do(("plain", 40)),
            "NothingThere": full.again,
            "Taken": lambda: full.do(("stone", "ann", 0, 0, 5)),
            "Full": lambda: full.do(("year", 40, 5, 5, 5)),
            "BadPage": lambda: read(""),
        }
        self.assertEqual(list(asks), NAMES)
        for name, ask in asks.items():
            with self.assertRaises(errors.FirnError) as taken:
                ask()
            self.assertIs(taken.exception.__class__, named(name))


if __name__ == "__main__":
    unittest.main()
