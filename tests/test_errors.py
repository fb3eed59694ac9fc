import unittest

from firnfall import errors

NAMES = [
    "BadValley", "BadRound", "BadWeather", "BadYear", "BadSurge", "BadRock", "BadName", "BadHand", "BadDeed",
    "NoLane", "NoPlace", "NoName", "NotTold", "NothingThere", "Taken", "Full", "BadPage",
]


def named(name):
    return getattr(errors, name)


def made(name):
    return named(name)(3) if name == "BadPage" else named(name)("words")


class ErrorsTest(unittest.TestCase):
    def test_any_refusal_is_a_value_error(self):
        self.assertTrue(issubclass(errors.FirnError, ValueError))

    def test_every_class_stands_under_firn_error(self):
        for name in NAMES:
            with self.subTest(name=name):
                self.assertTrue(issubclass(named(name), errors.FirnError))
                self.assertIsNot(named(name), errors.FirnError)
                self.assertEqual(named(name).__name__, name)

    def test_none_stands_under_another(self):
        for name in NAMES:
            for other in NAMES:
                if name != other:
                    with self.subTest(name=name, other=other):
                        self.assertFalse(issubclass(named(name), named(other)))

    def test_firn_error_stands_under_none_of_them(self):
        for name in NAMES:
            with self.subTest(name=name):
                self.assertFalse(issubclass(errors.FirnError, named(name)))

    def test_each_is_raised_and_taken_by_its_name(self):
        for name in NAMES:
            with self.subTest(name=name):
                with self.assertRaises(named(name)):
                    raise made(name)
                with self.assertRaises(errors.FirnError):
                    raise made(name)

    def test_bad_page_bears_its_row(self):
        for row in (0, 1, 7, 200):
            with self.subTest(row=row):
                self.assertEqual(errors.BadPage(row).row, row)

    def test_bad_page_bears_its_row_when_it_is_taken(self):
        with self.assertRaises(errors.BadPage) as taken:
            raise errors.BadPage(5)
        self.assertEqual(taken.exception.row, 5)

    def test_bad_pages_keep_their_own_rows(self):
        first, second = errors.BadPage(1), errors.BadPage(2)
        self.assertEqual((first.row, second.row), (1, 2))


if __name__ == "__main__":
    unittest.main()
