import copy
import itertools
import random
import string
import unittest

from deeds import BAD_NAMES, BAD_ROCKS, some_deed
from firnfall import errors
from firnfall.book import Book
from firnfall.errors import BadDeed, BadName, BadRock, BadRound, BadSurge, BadValley, BadWeather, BadYear, FirnError
from firnfall.errors import Full, NoLane, NoName, NoPlace, NotTold, NothingThere, Taken
from firnfall.finds import brought, falls_for
from firnfall.lives import pile
from firnfall.pages import written
from firnfall.snouts import snouts
from firnfall.stones import rest, way
from plainbook import PlainBook
from samples import BEHIND, FAR, GREATEST, LAST_ASKED, ONE, SHORT, SIX, TWELVE, TWO, WAVES
from samples import standing

BAD_YEARS = (-1, 100, 10 ** 40, FAR, -FAR)
BAD_LANES = (-1, 3, FAR, -FAR)
DOWN = [(-1, (60, 60, 60, 10, 10))]
ALL_GONE = [(50, 1, 2)]


def told_by(book):
    """All that a book tells."""
    ice = book.ice()
    spots = [(lane, place) for lane in range(ice.many()) for place in range(ice.length(lane))]
    return [
        standing(ice), book.cliffs(), book.stones(), book.finds(), book.brought(), written(book),
        [(book.rest(row[0]), book.way(row[0])) for row in book.stones()],
        [book.piled(*spot, year) for spot in spots for year in (0, 5, 9, 14, 30)],
    ]


def told_book():
    """A book with something of each kind."""
    book = Book(BEHIND, TWO)
    for deed in (
        ("year", 5, 10, 3, 1), ("year", 2, 20, 0, 9), ("surge", 0, 4, 2), ("surge", 1, 4, 9), ("surge", 0, 3, 1),
        ("cliff", 1, 2, "q"), ("cliff", 0, 6, "a"), ("cliff", 1, 0, "a"), ("stone", "bob", 1, 0, 7),
        ("stone", "ann", 1, 8, 3), ("found", "bob", 1, 5, 0, 99, "a"), ("found", "ann", 1, 6, 9, 40, "q"),
    ):
        book.do(deed)
    return book


class BookCase(unittest.TestCase):
    def refused(self, refusal, book, *deeds):
        """Each deed is refused so, and changes nothing."""
        before = told_by(book)
        for deed in deeds:
            with self.assertRaises(refusal):
                book.do(deed)
        self.assertTrue(told_by(book) == before)


class NewBookTest(unittest.TestCase):
    def test_it_keeps_a_valley_and_a_round(self):
        book = Book(BEHIND, TWO)
        self.assertEqual((book.ice().reaches(), book.ice().rows()), (BEHIND, TWO))
        self.assertEqual((book.ice().told(), book.ice().surges(1)), ([], []))
        self.assertEqual((book.cliffs(), book.stones(), book.finds(), book.brought()), ([], [], [], ("all", [])))

    def test_refusals_in_their_order(self):
        for reaches, rows in itertools.product(([], [(0, (5,))], [(-1, ())], [(-1, (100,))]), (ONE, [], [(101, 0, 0)])):
            with self.assertRaises(BadValley):
                Book(reaches, rows)
        for rows in ([], [(101, 0, 0)], ONE * 13):
            with self.assertRaises(BadRound):
                Book(BEHIND, rows)

    def test_what_is_handed_in_is_not_kept(self):
        reaches, rows, other = list(BEHIND), list(TWO), list(TWELVE)
        book = Book(reaches=reaches, rows=rows)
        reaches.clear()
        rows.append((5, 5, 5))
        self.assertEqual((book.ice().reaches(), book.ice().rows()), (BEHIND, TWO))
        book.do(deed=("round", other))
        other.clear()
        self.assertEqual(book.ice().rows(), TWELVE)
        book.back()
        book.again()
        self.assertEqual(book.ice().rows(), TWELVE)


class DeedTest(BookCase):
    def test_the_round(self):
        book = told_book()
        self.assertIsNone(book.do(("round", TWELVE)))
        self.assertEqual(book.ice().rows(), TWELVE)
        self.refused(BadRound, book, ("round", []), ("round", TWELVE + ONE), ("round", [(0, 0, 0), (0, 10, 0)]))
        self.refused(BadRound, book, ("round", [(-1, 0, 0)]), ("round", [(0, 0, FAR)]))

    def test_years(self):
        book = Book(BEHIND, TWO)
        self.assertIsNone(book.do(("year", 99, 100, 9, 9)))
        self.assertIsNone(book.do(("year", 0, 0, 0, 0)))
        self.assertEqual(book.ice().told(), [(0, (0, 0, 0)), (99, (100, 9, 9))])
        book.do(("year", 0, 5, 6, 7))
        self.assertEqual(book.ice().told(), [(0, (5, 6, 7)), (99, (100, 9, 9))])
        self.assertIsNone(book.do(("plain", 99)))
        self.assertEqual(book.ice().told(), [(0, (5, 6, 7))])
        for year in BAD_YEARS:
            self.refused(BadYear, book, ("year", year, 5, 5, 5), ("year", year, -1, 5, 5), ("plain", year))
        self.refused(BadWeather, book, ("year", 0, 101, 5, 5), ("year", 1, 5, 10, 5), ("year", 1, 5, 5, -1))
        self.refused(NotTold, book, ("plain", 99), ("plain", 1))

    def test_surges(self):
        book = Book(BEHIND, TWO)
        self.assertIsNone(book.do(("surge", 2, 99, 9)))
        self.assertIsNone(book.do(("surge", 0, 99, 1)))
        book.do(("surge", 2, 0, 1))
        self.assertEqual([book.ice().surges(lane) for lane in range(3)], [[(99, 1)], [], [(0, 1), (99, 9)]])
        book.do(("surge", 2, 99, 3))
        self.assertIsNone(book.do(("calm", 2, 0)))
        self.assertEqual([book.ice().surges(lane) for lane in range(3)], [[(99, 1)], [], [(99, 3)]])
        for lane, year in itertools.product(BAD_LANES, (0,) + BAD_YEARS):
            self.refused(NoLane, book, ("surge", lane, year, 5), ("surge", lane, year, 0), ("calm", lane, year))
        for year in BAD_YEARS:
            self.refused(BadYear, book, ("surge", 0, year, 5), ("surge", 0, year, 0), ("calm", 0, year))
        self.refused(BadSurge, book, ("surge", 0, 99, 0), ("surge", 0, 5, 10), ("surge", 0, 5, -1), ("surge", 0, 5, FAR))
        self.refused(NotTold, book, ("calm", 2, 0), ("calm", 0, 0), ("calm", 1, 99))

    def test_cliffs(self):
        book = Book(BEHIND, TWO)
        self.assertIsNone(book.do(("cliff", 1, 8, "z")))
        self.assertIsNone(book.do(("cliff", 1, 0, "a")))
        book.do(("cliff", 0, 6, "m"))
        self.assertEqual(book.cliffs(), [(0, 6, "m"), (1, 0, "a"), (1, 8, "z")])
        book.do(("cliff", 1, 0, "b"))
        self.assertIsNone(book.do(("level", 0, 6)))
        self.assertEqual(book.cliffs(), [(1, 0, "b"), (1, 8, "z")])
        for lane, place in itertools.product(BAD_LANES, (0, -1, 9)):
            self.refused(NoLane, book, ("cliff", lane, place, "a"), ("cliff", lane, place, ""), ("level", lane, place))
        for place in (-1, 7, 8, FAR, -FAR):
            self.refused(NoPlace, book, ("cliff", 0, place, "a"), ("cliff", 0, place, ""), ("level", 0, place))
        for rock in BAD_ROCKS:
            self.refused(BadRock, book, ("cliff", 0, 0, rock), ("cliff", 1, 0, rock))
        self.refused(NotTold, book, ("level", 0, 6), ("level", 0, 0))

    def test_stones(self):
        book = Book(BEHIND, TWO)
        self.assertIsNone(book.do(("stone", "z", 1, 8, 99)))
        self.assertIsNone(book.do(("stone", "abcdefgh", 0, 6, 0)))
        book.do(("stone", "m", 2, 2, 50))
        self.assertEqual(book.stones(), [("abcdefgh", 0, 6, 0), ("m", 2, 2, 50), ("z", 1, 8, 99)])
        self.assertIsNone(book.do(("amend", "z", 0, 5, 3)))
        self.assertIsNone(book.do(("strike", "m")))
        self.assertEqual(book.stones(), [("abcdefgh", 0, 6, 0), ("z", 0, 5, 3)])
        for name, lane in itertools.product(BAD_NAMES, (0, -1)):
            self.refused(BadName, book, ("stone", name, lane, 0, 0), ("stone", name, lane, -1, 100))
            self.refused(NoName, book, ("amend", name, lane, 0, 0), ("strike", name))
        for lane, place, year in itertools.product((0, -1), (0, -1), (0, 100)):
            self.refused(Taken, book, ("stone", "z", lane, place, year))
            self.refused(NoName, book, ("amend", "m", lane, place, year))
        for lane, place, year in itertools.product(BAD_LANES, (0, -1), (0, 100)):
            self.refused(NoLane, book, ("stone", "n", lane, place, year), ("amend", "z", lane, place, year))
        for place, year in itertools.product((-1, 7, FAR, -FAR), (0, 100)):
            self.refused(NoPlace, book, ("stone", "n", 0, place, year), ("amend", "z", 0, place, year))
        for year in BAD_YEARS:
            self.refused(BadYear, book, ("stone", "n", 0, 0, year), ("amend", "z", 0, 0, year))
        self.refused(NoName, book, ("strike", "m"), ("strike", "n"), ("amend", "n", 0, 0, 0))

    def test_finds(self):
        book = Book(BEHIND, TWO)
        self.assertIsNone(book.do(("found", "z", 1, 8, 0, 99, "a")))
        self.assertIsNone(book.do(("found", "abcdefgh", 0, 6, 5, 5, "z")))
        self.assertEqual(book.finds(), [("abcdefgh", 0, 6, 5, 5, "z"), ("z", 1, 8, 0, 99, "a")])
        self.assertIsNone(book.do(("lost", "z")))
        self.assertEqual(book.finds(), [("abcdefgh", 0, 6, 5, 5, "z")])
        for name, lane in itertools.product(BAD_NAMES, (0, -1)):
            self.refused(BadName, book, ("found", name, lane, 0, 0, 5, "a"), ("found", name, lane, -1, 5, 0, ""))
        for lane, place, last, rock in itertools.product((0, -1), (0, -1), (5, 100), ("a", "")):
            self.refused(Taken, book, ("found", "abcdefgh", lane, place, 5, last, rock))
        for lane, place, last, rock in itertools.product(BAD_LANES, (0, -1), (5, 100), ("a", "")):
            self.refused(NoLane, book, ("found", "n", lane, place, 5, last, rock))
        for place, last, rock in itertools.product((-1, 7, FAR, -FAR), (5, 100), ("a", "")):
            self.refused(NoPlace, book, ("found", "n", 0, place, 5, last, rock))
        for year, rock in itertools.product(BAD_YEARS, ("a", "")):
            self.refused(BadYear, book, ("found", "n", 0, 0, year, 5, rock), ("found", "n", 0, 0, 5, year, rock))
            self.refused(BadYear, book, ("found", "n", 0, 0, year, year, rock))
        self.refused(BadYear, book, ("found", "n", 0, 0, 6, 5, "a"), ("found", "n", 0, 0, 99, 0, ""))
        for rock in BAD_ROCKS:
            self.refused(BadRock, book, ("found", "n", 0, 0, 5, 5, rock))
        self.refused(NoName, book, ("lost", "z"), ("lost", "n"), ("lost", ""))

    def test_a_stone_and_a_find_of_one_name(self):
        book = Book(BEHIND, TWO)
        book.do(("stone", "ann", 0, 0, 5))
        book.do(("found", "ann", 0, 0, 5, 5, "a"))
        book.do(("strike", "ann"))
        self.assertEqual((book.stones(), book.finds()), ([], [("ann", 0, 0, 5, 5, "a")]))
        book.do(("stone", "ann", 0, 0, 5))
        book.do(("lost", "ann"))
        self.assertEqual((book.stones(), book.finds()), ([("ann", 0, 0, 5)], []))

    def test_rows_that_are_no_deeds(self):
        deeds = {
            "round": (ONE,), "year": (0, 5, 5, 5), "plain": (5,), "surge": (0, 0, 5), "calm": (0, 4),
            "cliff": (0, 0, "a"), "level": (0, 6), "stone": ("n", 0, 0, 0), "amend": ("ann", 0, 0, 0),
            "strike": ("ann",), "found": ("n", 0, 0, 0, 0, "a"), "lost": ("ann",),
        }
        book = told_book()
        self.refused(BadDeed, book, (), ("",), ("other",), ("other", 5), ("Round", ONE), ("rounds", ONE), ("back",))
        for word, things in deeds.items():
            self.refused(BadDeed, book, (word,), (word, *things, 5))
            self.refused(BadDeed, book, (word, *things[:-1]), (word, *things, *things), (word.upper(), *things))
            book.do((word, *things))
            book.back()

    def test_by_chance_against_a_plain_book(self):
        chance = random.Random(1)
        seen = set()
        for reaches in (BEHIND, WAVES, SHORT, SIX):
            book, plain = Book(reaches, TWO), PlainBook(reaches, TWO)
            for step in range(700):
                deed = some_deed(chance, reaches)
                refusal = plain.do(deed)
                seen.add((deed[0] if deed else "", refusal))
                if refusal is None:
                    self.assertIsNone(book.do(deed))
                else:
                    with self.assertRaises(getattr(errors, refusal)):
                        book.do(deed)
                if step % 5 == 0:
                    self.assertEqual(written(book), plain.page())
        self.assertGreater(len(seen), 40)


class FullTest(BookCase):
    def test_years(self):
        book = Book(SHORT, ONE)
        for year in range(40):
            book.do(("year", 2 * year, 5, 5, 5))
        self.refused(Full, book, ("year", 1, 5, 5, 5), ("year", 99, 5, 5, 5))
        self.refused(BadWeather, book, ("year", 1, 101, 5, 5))
        self.refused(BadYear, book, ("year", 100, 5, 5, 5))
        book.do(("year", 78, 6, 6, 6))
        book.do(("plain", 0))
        book.do(("year", 99, 5, 5, 5))
        self.assertEqual(len(book.ice().told()), 40)
        self.refused(Full, book, ("year", 0, 5, 5, 5))

    def test_surges_of_a_lane(self):
        book = Book(SIX, ONE)
        for lane, year in itertools.product(range(6), range(12)):
            book.do(("surge", lane, 8 * year, 5))
        for lane in range(6):
            self.refused(Full, book, ("surge", lane, 1, 5), ("surge", lane, 99, 5))
        self.refused(BadSurge, book, ("surge", 0, 1, 0))
        self.refused(BadYear, book, ("surge", 0, 100, 5))
        book.do(("surge", 3, 88, 9))
        book.do(("calm", 3, 0))
        self.refused(Full, book, ("surge", 2, 1, 5))
        book.do(("surge", 3, 99, 5))
        self.assertEqual([len(book.ice().surges(lane)) for lane in range(6)], [12] * 6)
        self.refused(Full, book, ("surge", 3, 0, 5))

    def test_cliffs(self):
        book = Book(BEHIND, ONE)
        for place in range(6):
            book.do(("cliff", 0, place, "a"))
            book.do(("cliff", 1, place, "b"))
        self.refused(Full, book, ("cliff", 0, 6, "a"), ("cliff", 2, 0, "a"))
        self.refused(BadRock, book, ("cliff", 0, 6, ""))
        self.refused(NoPlace, book, ("cliff", 0, 7, "a"))
        book.do(("cliff", 1, 5, "z"))
        book.do(("level", 0, 0))
        book.do(("cliff", 2, 0, "a"))
        self.assertEqual(len(book.cliffs()), 12)
        self.refused(Full, book, ("cliff", 0, 0, "a"))

    def test_stones(self):
        book = Book(BEHIND, ONE)
        for name in string.ascii_lowercase[:20]:
            book.do(("stone", name, 0, 0, 5))
        self.refused(Full, book, ("stone", "z", 0, 0, 5), ("stone", "aa", 1, 8, 99))
        self.refused(Taken, book, ("stone", "a", 0, 0, 5))
        self.refused(BadYear, book, ("stone", "z", 0, 0, 100))
        book.do(("amend", "a", 0, 1, 6))
        book.do(("strike", "b"))
        book.do(("stone", "z", 0, 0, 5))
        self.assertEqual(len(book.stones()), 20)
        self.refused(Full, book, ("stone", "b", 0, 0, 5))

    def test_finds(self):
        book = Book(BEHIND, ONE)
        for name in string.ascii_lowercase[:12]:
            book.do(("found", name, 0, 0, 5, 5, "a"))
        self.refused(Full, book, ("found", "z", 0, 0, 5, 5, "a"))
        self.refused(Taken, book, ("found", "a", 0, 0, 5, 5, "a"))
        self.refused(BadRock, book, ("found", "z", 0, 0, 5, 5, ""))
        book.do(("lost", "b"))
        book.do(("found", "z", 0, 0, 5, 5, "a"))
        self.assertEqual(len(book.finds()), 12)
        self.refused(Full, book, ("found", "b", 0, 0, 5, 5, "a"))

    def test_taken_back_makes_room(self):
        book = Book(BEHIND, ONE)
        for name in string.ascii_lowercase[:12]:
            book.do(("found", name, 0, 0, 5, 5, "a"))
        book.back()
        self.refused(Taken, book, ("found", "a", 0, 0, 5, 5, "a"))
        book.again()
        self.refused(Full, book, ("found", "z", 0, 0, 5, 5, "a"))
        book.back()
        book.do(("found", "z", 0, 0, 5, 5, "a"))
        self.assertEqual([find[0] for find in book.finds()], list("abcdefghijkz"))


class BackAndAgainTest(BookCase):
    def test_nothing_there(self):
        for book, many in ((Book(BEHIND, TWO), 0), (told_book(), 12)):
            before = told_by(book)
            self.at_an_end(book, book.again)
            for step in range(many):
                self.assertIsNone(book.back())
            self.assertTrue(told_by(book) == told_by(Book(BEHIND, TWO)))
            self.at_an_end(book, book.back)
            for step in range(many):
                self.assertIsNone(book.again())
            self.assertTrue(told_by(book) == before)
            self.at_an_end(book, book.again)

    def at_an_end(self, book, ask):
        before = told_by(book)
        with self.assertRaises(NothingThere):
            ask()
        self.assertTrue(told_by(book) == before)

    def test_each_kind_of_deed(self):
        deeds = [
            ("round", TWELVE), ("year", 5, 5, 5, 5), ("year", 6, 5, 5, 5), ("plain", 5), ("surge", 0, 4, 9),
            ("surge", 0, 5, 9), ("calm", 0, 4), ("cliff", 0, 6, "z"), ("cliff", 0, 5, "z"), ("level", 0, 6),
            ("stone", "n", 0, 0, 5), ("amend", "ann", 0, 1, 6), ("strike", "ann"), ("found", "n", 0, 0, 5, 5, "a"),
            ("lost", "ann"),
        ]
        for deed in deeds:
            book = told_book()
            before = told_by(book)
            book.do(deed)
            behind = told_by(book)
            self.assertTrue(before != behind)
            for turn in range(2):
                book.back()
                self.assertTrue(told_by(book) == before)
                book.again()
                self.assertTrue(told_by(book) == behind)

    def test_a_deed_that_tells_what_was_told_already_is_one_to_take_back(self):
        book = Book(BEHIND, TWO)
        for turn in range(3):
            book.do(("year", 5, 5, 5, 5))
        for turn in range(2):
            book.back()
            self.assertEqual(book.ice().told(), [(5, (5, 5, 5))])
        book.back()
        self.assertEqual(book.ice().told(), [])

    def test_what_was_told_before_comes_back(self):
        book = Book(BEHIND, TWO)
        for row in ((1, 1, 1), (2, 2, 2), (3, 3, 3)):
            book.do(("year", 5, *row))
        book.do(("plain", 5))
        for row in ((3, 3, 3), (2, 2, 2), (1, 1, 1)):
            book.back()
            self.assertEqual(book.ice().told(), [(5, row)])

    def test_a_new_deed_forgets_what_was_taken_back(self):
        book = told_book()
        book.back()
        book.back()
        book.do(("cliff", 0, 0, "z"))
        with self.assertRaises(NothingThere):
            book.again()
        book.back()
        book.again()
        self.assertIn((0, 0, "z"), book.cliffs())
        with self.assertRaises(NothingThere):
            book.again()

    def test_a_refused_deed_does_not(self):
        book = told_book()
        behind = told_by(book)
        book.back()
        book.back()
        self.refused(FirnError, book, ("cliff", 9, 0, "z"), ("other",), (), ("plain", 50), ("stone", "bob", 0, 0, 0))
        book.again()
        book.again()
        self.assertTrue(told_by(book) == behind)

    def test_many_deeds(self):
        book = Book(BEHIND, TWO)
        pages = [written(book)]
        for step in range(1000):
            book.do(("year", step % 30, step % 101, step % 10, step % 7))
            pages.append(written(book))
        for page in pages[-2::-1]:
            book.back()
            self.assertEqual(written(book), page)
        with self.assertRaises(NothingThere):
            book.back()
        for page in pages[1:]:
            book.again()
            self.assertEqual(written(book), page)
        with self.assertRaises(NothingThere):
            book.again()

    def test_by_chance_against_a_plain_book(self):
        chance = random.Random(2)
        book, plain = Book(BEHIND, TWO), PlainBook(BEHIND, TWO)
        for step in range(1500):
            kind = chance.random()
            if kind < 0.5:
                deed = some_deed(chance, BEHIND, 0.05)
                told = [plain.do(deed), lambda: book.do(deed)]
            elif kind < 0.78:
                told = [plain.back(), book.back]
            else:
                told = [plain.again(), book.again]
            self.assertEqual(self.refusal(told[1]), told[0])
            self.assertEqual(written(book), plain.page())

    def refusal(self, ask):
        """The name of a refusal, or None."""
        try:
            ask()
        except FirnError as error:
            return error.__class__.__name__
        return None


class TwinTest(BookCase):
    def test_a_twin_stands_alike(self):
        book = told_book()
        book.back()
        other = book.twin()
        self.assertIs(type(other), Book)
        self.assertTrue(told_by(other) == told_by(book))
        other.again()
        book.again()
        self.assertTrue(told_by(other) == told_by(book))
        with self.assertRaises(NothingThere):
            other.again()

    def test_each_goes_its_own_way(self):
        book = told_book()
        book.back()
        before = told_by(book)
        other = book.twin()
        other.do(("year", 50, 5, 5, 5))
        other.do(("surge", 2, 5, 5))
        other.do(("cliff", 2, 1, "x"))
        other.do(("strike", "bob"))
        other.do(("lost", "bob"))
        other.do(("round", ONE))
        self.assertTrue(told_by(book) == before)
        # The twin's new deeds forgot what the book can still do again.
        with self.assertRaises(NothingThere):
            other.again()
        third = other.twin()
        book.again()
        book.do(("round", TWELVE))
        for step in range(6):
            other.back()
        self.assertTrue(told_by(other) == before)
        for step in range(11):
            third.back()
        self.assertEqual(third.ice().told(), [(2, (20, 0, 9)), (5, (10, 3, 1))])
        self.assertTrue(told_by(other) == before)

    def test_a_twin_of_a_twin_takes_back_and_does_again(self):
        books = [told_book()]
        for step in range(3):
            books[-1].back()
            books.append(books[-1].twin())
        pages = [written(book) for book in books]
        self.assertEqual(pages[2], pages[3])
        last = books[3]
        for page in (pages[1], pages[0], written(told_book())):
            last.again()
            self.assertEqual(written(last), page)
        self.assertEqual([written(book) for book in books[:3]], pages[:3])

    def test_deeds_by_turns(self):
        chance = random.Random(3)
        pairs = [(Book(BEHIND, TWO), PlainBook(BEHIND, TWO))]
        for step in range(600):
            book, plain = chance.choice(pairs)
            kind = chance.random()
            if kind < 0.03 and len(pairs) < 6:
                pairs.append((book.twin(), copy.deepcopy(plain)))
            elif kind < 0.2:
                self.same(plain.back(), book.back)
            elif kind < 0.35:
                self.same(plain.again(), book.again)
            else:
                deed = some_deed(chance, BEHIND, 0.05)
                self.same(plain.do(deed), lambda: book.do(deed))
            self.assertEqual([written(one) for one, other in pairs], [other.page() for one, other in pairs])
        self.assertEqual(len(pairs), 6)

    def same(self, refusal, ask):
        if refusal is None:
            ask()
        else:
            with self.assertRaises(getattr(errors, refusal)):
                ask()

    def test_the_told_ice_goes_its_own_way(self):
        book = told_book()
        before = told_by(book)
        ice = book.ice()
        ice.tell(50, (5, 5, 5))
        ice.plain(5)
        ice.surge(2, 5, 5)
        ice.calm(0, 4)
        ice.turn(TWELVE)
        self.assertTrue(told_by(book) == before)
        book.do(("year", 51, 5, 5, 5))
        self.assertEqual(ice.told(), [(2, (20, 0, 9)), (50, (5, 5, 5))])


class TellingTest(BookCase):
    def test_rests_and_ways(self):
        book = told_book()
        ice = book.ice()
        self.assertEqual(book.rest("bob"), rest(ice, 1, 0, 7))
        self.assertEqual(book.way("bob"), way(ice, 1, 0, 7))
        self.assertEqual(book.rest("ann"), rest(ice, 1, 8, 3))
        book.do(("amend", "ann", 0, 0, 99))
        self.assertEqual(book.way(name="ann"), way(ice, 0, 0, 99))
        self.assertEqual(book.rest(name="ann"), rest(ice, 0, 0, 99))
        for name in ("", "cleo", "a", "Ann", "bobb"):
            for ask in (book.rest, book.way):
                with self.assertRaises(NoName):
                    ask(name)
        book.do(("found", "cleo", 0, 0, 5, 5, "a"))
        book.do(("strike", "bob"))
        for name in ("cleo", "bob"):
            for ask in (book.rest, book.way):
                with self.assertRaises(NoName):
                    ask(name)

    def test_stones_that_ride_with_a_column(self):
        book = Book(DOWN, ALL_GONE)
        for name, place, year in (("late", 2, 9), ("b", 0, 7), ("a", 0, 7), ("other", 0, 8), ("mid", 1, 8), ("end", 4, 11)):
            book.do(("stone", name, 0, place, year))
        self.assertEqual(book.piled(0, 0, 6), [])
        self.assertEqual(book.piled(0, 0, 7), ["a", "b"])
        self.assertEqual(book.piled(0, 1, 8), ["a", "b", "mid"])
        self.assertEqual(book.piled(0, 0, 8), ["other"])
        self.assertEqual(book.piled(0, 2, 9), ["a", "b", "mid", "late"])
        self.assertEqual(book.piled(0, 3, 10), ["a", "b", "mid", "late"])
        # The column is bare there: they are left in that very year, and so is one that falls then.
        self.assertEqual(book.piled(lane=0, place=4, year=11), ["a", "b", "mid", "late", "end"])
        self.assertEqual(book.piled(0, 4, 12), ["other"])

    def test_a_column_leaves_its_stones(self):
        book = Book([(-1, (60, 10, 60, 60))], [(50, 2, 2)])
        book.do(("stone", "ann", 0, 0, 5))
        book.do(("stone", "bob", 0, 2, 7))
        self.assertEqual(book.piled(0, 1, 6), ["ann"])
        self.assertEqual(book.piled(0, 2, 7), ["bob"])
        self.assertEqual(book.piled(0, 3, 8), ["bob"])

    def test_stones_of_other_lanes_ride_elsewhere(self):
        book = Book(SIX, [(0, 1, 0)])
        for lane in range(6):
            book.do(("stone", "abcdef"[lane], lane, 0, 5))
        for lane in range(6):
            self.assertEqual(book.piled(lane, 1, 6), ["abcdef"[lane]])

    def test_far_years_have_no_stones(self):
        book = Book(DOWN, [(0, 1, 0)])
        book.do(("stone", "ann", 0, 0, 99))
        self.assertEqual([book.piled(0, place, 99 + place) for place in range(5)], [["ann"]] * 5)
        self.assertEqual([book.piled(0, 4, year) for year in (104, 10 ** 6, LAST_ASKED)], [[], [], []])

    def test_piled_against_the_ways(self):
        chance = random.Random(4)
        book = Book(WAVES, TWO)
        book.do(("surge", 0, 9, 3))
        for name in string.ascii_lowercase[:20]:
            book.do(("stone", name, chance.randrange(2), chance.randrange(10), chance.randrange(12)))
        rows = book.stones()
        for lane, place, year in itertools.product(range(2), range(10), range(24)):
            riding = [row for row in rows if row[1] == lane and (year, place) in [step[:2] for step in book.way(row[0])]]
            self.assertEqual(book.piled(lane, place, year), [row[0] for row in sorted(riding, key=lambda row: row[3])])

    def test_piled_refusals_in_their_order(self):
        book = told_book()
        years = (-1, LAST_ASKED + 1, FAR, -FAR)
        for lane, place, year in itertools.product(BAD_LANES, (0, -1, 9), (0,) + years):
            with self.assertRaises(NoLane):
                book.piled(lane, place, year)
        for place, year in itertools.product((-1, 7, FAR, -FAR), (0,) + years):
            with self.assertRaises(NoPlace):
                book.piled(0, place, year)
        for year in years:
            with self.assertRaises(BadYear):
                book.piled(0, 0, year)

    def test_finds_brought_together_by_names(self):
        book = Book(DOWN, ALL_GONE)
        book.do(("cliff", 0, 0, "a"))
        book.do(("found", "narrow", 0, 4, 9, 9, "a"))
        book.do(("found", "broad", 0, 4, 9, 10, "a"))
        self.assertEqual(book.brought(), ("all", [("broad", 6, 0), ("narrow", 5, 0)]))
        book.do(("found", "mid", 0, 4, 10, 10, "a"))
        book.do(("found", "apart", 0, 4, 20, 20, "a"))
        self.assertEqual(book.brought(), ("none", ["broad", "mid", "narrow"]))
        book.do(("cliff", 0, 1, "a"))
        self.assertEqual(book.brought()[0], "all")
        self.assertEqual([row[0] for row in book.brought()[1]], ["apart", "broad", "mid", "narrow"])
        book.do(("level", 0, 0))
        book.do(("level", 0, 1))
        told = book.brought()
        self.assertEqual((told[0], len(told[1])), ("none", 1))

    def test_brought_is_what_the_finds_tell(self):
        chance = random.Random(6)
        words = set()
        for step in range(60):
            book = Book(WAVES, [(50, 2, 3), (70, 1, 5)])
            for turn in range(40):
                try:
                    book.do(some_deed(chance, WAVES, 0))
                except FirnError:
                    pass
            told = book.brought()
            words.add(told[0])
            names = [find[0] for find in book.finds()]
            word, wanted = brought(book.ice(), book.cliffs(), [find[1:] for find in book.finds()])
            self.assertEqual(told[0], word)
            if word == "none":
                self.assertEqual(told[1], [names[number] for number in wanted])
            else:
                self.assertEqual([row[0] for row in told[1]], names)
                for row, find in zip(told[1], book.finds()):
                    self.assertIn(row[1:], falls_for(book.ice(), book.cliffs(), find[1:]))
        self.assertEqual(words, {"all", "none"})

    def test_kinds(self):
        book = told_book()
        for told in (book.stones(), book.cliffs(), book.finds(), book.way("bob")):
            self.assertIs(type(told), list)
            self.assertEqual({type(row) for row in told}, {tuple})
        self.assertIs(type(book.rest("bob")), tuple)
        self.assertIs(type(book.piled(1, 0, 7)), list)
        self.assertEqual([type(part) for part in book.brought()], [str, list])

    def test_told_lists_are_new_ones(self):
        book = told_book()
        asks = [book.stones, book.cliffs, book.finds, lambda: book.way("bob"), lambda: book.piled(1, 0, 7)]
        asks += [lambda: book.brought()[1], lambda: Book(DOWN, ONE).brought()[1]]
        for ask in asks:
            told = ask()
            before = list(told)
            told.append("more")
            told[0] = "other"
            self.assertEqual(ask(), before)


class OrderTest(BookCase):
    def test_told_in_another_order(self):
        chance = random.Random(7)
        deeds = [("year", year, year, 3, year % 8) for year in range(0, 60, 5)]
        deeds += [("surge", lane, year, 1 + year % 9) for lane, year in itertools.product((0, 1), (3, 9, 20))]
        deeds += [("cliff", lane, place, "ab"[place % 2]) for lane, place in itertools.product((0, 1), (0, 1, 4))]
        deeds += [("stone", name, lane, 2, 7) for lane, name in enumerate(("ann", "bob"))]
        deeds += [("found", name, 1, place, 5, 60, "a") for name, place in (("ann", 5), ("bob", 6), ("cleo", 8))]
        wanted = None
        for step in range(8):
            book = Book(BEHIND, [TWO, TWELVE][step % 2])
            for deed in deeds:
                book.do(deed)
                if chance.random() < 0.3:
                    self.detour(book, chance)
            if step % 2:
                book.do(("round", TWO))
            if wanted is None:
                wanted = told_by(book)
            self.assertTrue(told_by(book) == wanted)
            chance.shuffle(deeds)

    def detour(self, book, chance):
        """Things told and taken away again."""
        ways = [
            [("year", 99, 5, 5, 5), ("plain", 99)], [("surge", 2, 50, 5), ("calm", 2, 50)],
            [("cliff", 2, 2, "z"), ("level", 2, 2)], [("stone", "x", 2, 2, 2), ("strike", "x")],
            [("found", "x", 2, 2, 2, 2, "z"), ("lost", "x")],
            [("stone", "x", 2, 2, 2), ("amend", "x", 0, 0, 0), ("strike", "x")],
        ]
        for deed in chance.choice(ways):
            book.do(deed)

    def test_asked_all_along(self):
        """A book and its twin asked between deeds tell the same as books that were told the same anew."""
        chance = random.Random(8)
        book, plain = Book(WAVES, TWO), PlainBook(WAVES, TWO)
        twin, other = book.twin(), copy.deepcopy(plain)
        for step in range(60):
            for one, model in ((book, plain), (twin, other)):
                kind = chance.random()
                if kind < 0.15:
                    self.quietly(one.back, model.back)
                elif kind < 0.3:
                    self.quietly(one.again, model.again)
                else:
                    deed = some_deed(chance, WAVES, 0.03)
                    self.quietly(lambda: one.do(deed), lambda: model.do(deed))
                self.assertTrue(told_by(one) == told_by(model.told_anew()))
                self.assertEqual(snouts(one.ice(), 0), snouts(model.ice(), 0))
                self.assertEqual(pile(one.ice(), 0, 3, 9), pile(model.ice(), 0, 3, 9))

    def quietly(self, ask, wanted):
        refusal = wanted()
        if refusal is None:
            ask()
        else:
            with self.assertRaises(getattr(errors, refusal)):
                ask()

    def test_the_greatest_book(self):
        book = Book(GREATEST, TWELVE)
        for year in range(40):
            book.do(("year", 2 * year, year, year % 10, 5))
        for lane, year in itertools.product(range(6), range(12)):
            book.do(("surge", lane, 8 * year, year % 9 + 1))
        for number, name in enumerate(string.ascii_lowercase[:20]):
            book.do(("stone", name, number % 6, number, number))
        for number, name in enumerate(string.ascii_lowercase[:12]):
            book.do(("cliff", number % 6, number, "a"))
            book.do(("found", name, number % 6, 20 + number % 9, 0, 99, "a"))
        before = told_by(book)
        self.assertTrue(told_by(book.twin()) == before)
        self.assertEqual(len(written(book).split("\n")), 177)


if __name__ == "__main__":
    unittest.main()
