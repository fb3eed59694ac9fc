import random
import re
import unittest

from deeds import some_deed
from firnfall.book import Book
from firnfall.errors import BadPage, FirnError, NothingThere
from firnfall.pages import read, written
from firnfall.valley import is_valley
from plainbook import PlainBook
from samples import BEHIND, GREATEST, LONG, ONE, SHORT, SIX, SPOT, TWELVE, TWO, WAVES

PAGE = """firn
reach -1 5 4
reach 0 20 15 10
reach 0 30
reach 1 50 40
reach 1 90 80 70 60
weather 50 3 2
weather 70 1 4
year 2 20 0 9
year 5 10 3 1
year 10 0 0 0
surge 0 3 1
surge 0 10 2
surge 1 4 9
cliff 0 6 a
cliff 1 0 a
cliff 1 2 q
stone ann 1 8 3
stone b 0 0 99
stone bob 1 0 7
found ann 1 6 9 40 q
found bob 1 5 0 99 a
found z 2 2 5 5 z"""
ROWS = PAGE.split("\n")
NUMBER = "(?:0|-?[1-9][0-9]{0,40})"


def with_row(number, row):
    """The rows of the page with another row in the place of one."""
    return ROWS[:number] + [row] + ROWS[number + 1:]


def is_page(rows, ahead):
    """Whether rows, the first so many of which are a valley and a round, are those of a page."""
    reaches = [tuple(int(word) for word in row.split()[1:]) for row in rows[:ahead] if row.startswith("reach")]
    cycle = [tuple(int(word) for word in row.split()[1:]) for row in rows[:ahead] if row.startswith("weather")]
    plain = PlainBook([(reach[0], reach[1:]) for reach in reaches], cycle)
    for row in rows[ahead:]:
        word, *things = row.split()[:7] or [""]
        deed = (word, *[int(thing) if re.fullmatch("-?[0-9]+", thing) else thing for thing in things])
        kinds = {"year": "nnnn", "surge": "nnn", "cliff": "nnw", "stone": "wnnn", "found": "wnnnnw"}.get(word)
        if kinds is None or len(kinds) != len(things):
            return False
        if any((kind == "n") != isinstance(thing, int) for kind, thing in zip(kinds, deed[1:])):
            return False
        if plain.do(deed) is not None:
            return False
    return plain.page() == "\n".join(rows)


def first_wrong(rows):
    """The number of the first wrong row, or None."""
    if rows[0] != "firn":
        return 0
    behind = 1
    while behind < len(rows) and re.fullmatch(f"reach( {NUMBER}){{2,}}", rows[behind]):
        behind += 1
    reaches = [[int(word) for word in row.split()[1:]] for row in rows[1:behind]]
    if not is_valley([(reach[0], tuple(reach[1:])) for reach in reaches]):
        return behind
    ahead = behind
    while ahead < len(rows) and ahead < behind + 12 and re.fullmatch(
            "weather (0|[1-9][0-9]?|100) [0-9] [0-9]", rows[ahead]):
        ahead += 1
    if ahead == behind:
        return behind
    for number in range(ahead, len(rows)):
        if not is_page(rows[:number + 1], ahead):
            return number
    return None


def some_book(chance):
    """A book told by chance, and a plain one that was told the same."""
    reaches = chance.choice((BEHIND, WAVES, SHORT, SIX))
    rows = chance.choice((ONE, TWO, TWELVE))
    book, plain = Book(reaches, rows), PlainBook(reaches, rows)
    for step in range(chance.randrange(60)):
        deed = some_deed(chance, reaches, 0.02)
        if plain.do(deed) is None:
            book.do(deed)
    return book, plain


class WrittenTest(unittest.TestCase):
    def test_the_least_page(self):
        self.assertEqual(written(Book(SPOT, ONE)), "firn\nreach -1 40\nweather 50 3 2")

    def test_a_row_for_each_thing(self):
        book = Book(BEHIND, TWO)
        for row in ROWS[:7:-1]:
            word, *things = row.split(" ")
            book.do((word, *[int(thing) if thing.isdigit() else thing for thing in things]))
        self.assertEqual(written(book=book), PAGE)

    def test_numbers_are_put_in_order_as_numbers(self):
        book = Book(LONG, ONE)
        for year in (10, 9, 99, 0, 1):
            book.do(("year", year, 5, 5, 5))
            book.do(("surge", 0, year, 5))
        for place in (10, 9, 29, 0):
            book.do(("cliff", 0, place, "a"))
        rows = written(book).split("\n")
        self.assertEqual([row for row in rows if row.startswith("year")], [f"year {year} 5 5 5" for year in (0, 1, 9, 10, 99)])
        self.assertEqual([row for row in rows if row.startswith("surge")], [f"surge 0 {year} 5" for year in (0, 1, 9, 10, 99)])
        self.assertEqual([row for row in rows if row.startswith("cliff")], [f"cliff 0 {place} a" for place in (0, 9, 10, 29)])

    def test_against_a_plain_book(self):
        chance = random.Random(21)
        for step in range(60):
            book, plain = some_book(chance)
            self.assertEqual(written(book), plain.page())

    def test_the_book_stays_as_it_was(self):
        book = read(PAGE)
        book.do(("lost", "z"))
        book.back()
        self.assertEqual([written(book) for turn in range(2)], [PAGE] * 2)
        book.again()
        book.back()
        with self.assertRaises(NothingThere):
            book.back()


class ReadTest(unittest.TestCase):
    def test_there_and_back(self):
        book = read(text=PAGE)
        self.assertIs(type(book), Book)
        self.assertEqual(written(book), PAGE)
        self.assertEqual((book.ice().reaches(), book.ice().rows()), (BEHIND, TWO))
        self.assertEqual(book.ice().told(), [(2, (20, 0, 9)), (5, (10, 3, 1)), (10, (0, 0, 0))])
        self.assertEqual([book.ice().surges(lane) for lane in range(3)], [[(3, 1), (10, 2)], [(4, 9)], []])
        self.assertEqual(book.cliffs(), [(0, 6, "a"), (1, 0, "a"), (1, 2, "q")])
        self.assertEqual(book.stones(), [("ann", 1, 8, 3), ("b", 0, 0, 99), ("bob", 1, 0, 7)])
        self.assertEqual(book.finds()[:2], [("ann", 1, 6, 9, 40, "q"), ("bob", 1, 5, 0, 99, "a")])

    def test_books_by_chance_there_and_back(self):
        chance = random.Random(22)
        for step in range(60):
            page = written(some_book(chance)[0])
            self.assertEqual(written(read(page)), page)

    def test_no_deeds_to_take_back_or_do_again(self):
        book = read(PAGE)
        for ask in (book.back, book.again):
            with self.assertRaises(NothingThere):
                ask()
        book.do(("lost", "z"))
        book.back()
        self.assertEqual(written(book), PAGE)
        with self.assertRaises(NothingThere):
            book.back()

    def test_full_pages(self):
        book = Book(GREATEST, TWELVE)
        for year in range(40):
            book.do(("year", 2 * year, year, year % 10, 5))
        for lane in range(6):
            for year in range(12):
                book.do(("surge", lane, 8 * year, year % 9 + 1))
        for number in range(20):
            name = "abcdefghijklmnopqrst"[number]
            book.do(("stone", name, number % 6, number, number))
            if number < 12:
                book.do(("cliff", number % 6, number, "a"))
                book.do(("found", name, number % 6, number, number, number, "z"))
        page = written(book)
        self.assertEqual(written(read(page)), page)
        rows = page.split("\n")
        for row, more in (("year 78", "year 79 5 5 5"), ("surge 2 88", "surge 2 89 5"), ("cliff 5 11", "cliff 5 12 a"),
                          ("stone t", "stone u 0 0 0"), ("found l", "found m 0 0 0 0 a")):
            number = [at for at, text in enumerate(rows) if text.startswith(row)][0] + 1
            with self.assertRaises(BadPage) as refusal:
                read("\n".join(rows[:number] + [more] + rows[number:]))
            self.assertEqual(refusal.exception.row, number)


class SpoiltTest(unittest.TestCase):
    def wrong(self, rows, number):
        """The text of these rows is refused for the row of this number."""
        with self.assertRaises(BadPage) as refusal:
            read("\n".join(rows))
        self.assertEqual(refusal.exception.row, number)
        self.assertIsInstance(refusal.exception, FirnError)

    def test_rows_of_no_form(self):
        for number, row in enumerate(ROWS):
            others = ["", " ", "firm", "other", row + " ", " " + row, row + " 5", row + "\n", row + "x", row.upper()]
            others += [row.replace(" ", "  ", 1) + " " * (" " not in row), row.replace(" ", "\t") + "\t"]
            others += [row[:-1] if " " not in row else row.rpartition(" ")[0] + " +5", "round 5", "back", "page"]
            for other in others:
                text = "\n".join(with_row(number, other))
                wanted = first_wrong(text.split("\n"))
                if wanted is not None:
                    with self.subTest(number=number, row=other):
                        self.wrong(text.split("\n"), wanted)

    def test_the_head(self):
        for row in ("", "Firn", "firn ", " firn", "firn 5", "firnfall", "reach -1 5"):
            self.wrong(with_row(0, row), 0)
        self.wrong([""], 0)
        self.wrong(["", "firn"], 0)
        self.wrong(["firn", "firn"] + ROWS[1:], 1)
        self.wrong(ROWS[1:], 0)

    def test_lacking_reaches(self):
        self.wrong(["firn"], 1)
        self.wrong(["firn", "weather 50 3 2"], 1)
        self.wrong(["firn", "reach -1"], 1)
        self.wrong(["firn", "reach"], 1)
        self.wrong(["firn", "reach "], 1)
        self.wrong(["firn", ""], 1)
        self.wrong(["firn", "year 5 5 5 5"], 1)

    def test_reaches_that_are_no_valley(self):
        for rows in (["reach 0 5"], ["reach -1 5", "reach 1 5"], ["reach -1 5", "reach -1 5"], ["reach -1 100"],
                     ["reach -1 -1"], ["reach -1 " + " ".join(["5"] * 13)], ["reach -1 5"] + ["reach 0 5"] * 8,
                     ["reach -1 5"] + ["reach 0 5"] * 7, ["reach -2 5"], ["reach -1 5", "reach 0 5", "reach 2 5"],
                     ["reach -1 " + "9" * 41],
                     ["reach -1 " + " ".join(["5"] * 12), "reach 0 " + " ".join(["5"] * 12), "reach 1 1 2 3 4 5 6 7"]):
            behind = 1 + len(rows)
            self.wrong(["firn"] + rows, behind)
            self.wrong(["firn"] + rows + ["weather 50 3 2"], behind)
            self.wrong(["firn"] + rows + ["weather 50 3 2", "other"], behind)
            self.wrong(["firn"] + rows + ["other"], behind)
            self.wrong(["firn"] + rows + ["reach 0"], behind)
        # The rows ahead of the one that is of no form count, though they are no valley.
        self.wrong(["firn", "reach 0 5", "reach 0 05", "weather 50 3 2"], 2)

    def test_reaches_of_no_form(self):
        for row in ("reach", "reach -1", "reach 5", "reach -1 ", "reach -1 5 ", "reach  -1 5", "reach -1 05", "reach -01 5",
                    "reach -1 +5", "reach -1 -0", "reach -1 a", "reach -1 5,4", "Reach -1 5", "reach -1 " + "9" * 42,
                    "reach -1 1_0", "reach -1 5.", "reach - 5", "reach -1 --5", "reach -1 5-"):
            self.wrong(["firn", row, "weather 50 3 2"], 1)
            self.wrong(["firn", "reach -1 5", row.replace("-1", "0"), "weather 50 3 2"], 2)

    def test_lacking_weather(self):
        self.wrong(ROWS[:6], 6)
        self.wrong(ROWS[:6] + ROWS[8:], 6)
        self.wrong(ROWS[:6] + [""], 6)
        self.wrong(["firn", "reach -1 5"], 2)

    def test_thirteen_rows_of_weather(self):
        rows = ["firn", "reach -1 5"] + ["weather 50 3 2"] * 12
        self.assertEqual(written(read("\n".join(rows))), "\n".join(rows))
        self.wrong(rows + ["weather 50 3 2"], 14)
        self.wrong(rows + ["weather 50 3 2"] * 5 + ["other"], 14)
        self.wrong(rows + ["weather 101 3 2"], 14)

    def test_rows_that_are_no_weather(self):
        for row in ("weather 101 3 2", "weather 50 10 2", "weather 50 3 10", "weather -1 3 2", "weather 50 -1 2",
                    "weather 50 3 -1", "weather 50 3", "weather 50 3 2 1", "weather 050 3 2", "weather 50 3 -0",
                    "weather " + "9" * 41 + " 3 2", "weather", "weather 50 3 two"):
            self.wrong(["firn", "reach -1 5", row], 2)
            self.wrong(["firn", "reach -1 5", "weather 50 3 2", row, "weather 50 3 2"], 3)
            self.wrong(["firn", "reach -1 5", "weather 50 3 2", "weather 50 3 2", row, "other"], 4)

    def test_a_reach_behind_weather_and_weather_behind_a_year(self):
        self.wrong(ROWS[:7] + ["reach 0 5"] + ROWS[7:], 7)
        self.wrong(ROWS[:9] + ["weather 50 3 2"] + ROWS[9:], 9)

    def test_a_line_feed_behind_the_last_row(self):
        for many in range(1, len(ROWS) + 1):
            text = "\n".join(ROWS[:many] + [""])
            wanted = first_wrong(ROWS[:many] + [""])
            with self.assertRaises(BadPage) as refusal:
                read(text)
            self.assertEqual(refusal.exception.row, wanted)
            self.assertEqual(wanted, many)

    def test_numbers_of_no_form(self):
        for row in ("year 02 20 0 9", "year +2 20 0 9", "year 2 20 -0 9", "year 2 20 00 9", "year 2 20 0 9.", "year 2 20 0 0x9",
                    "year 2 20 0", "year 2 20 0 9 9", "year  2 20 0 9", "year 2 20 0 9 ", "year 2 20 0 a", "year two 20 0 9",
                    "year " + "9" * 42 + " 20 0 9", "year " + "9" * 41 + " 20 0 9", "year -2 20 0 9", "year 2 20 0 1_0"):
            self.wrong(with_row(8, row), 8)

    def test_deeds_that_the_book_refuses(self):
        wrong = {
            8: ("year 100 5 5 5", "year -1 5 5 5", "year 2 101 5 5", "year 2 5 10 5", "year 2 5 5 -1"),
            11: ("surge 3 3 1", "surge -1 3 1", "surge 0 100 1", "surge 0 3 0", "surge 0 3 10"),
            14: ("cliff 3 0 a", "cliff 0 7 a", "cliff 0 -1 a", "cliff 0 6 A", "cliff 0 6 ab", "cliff 0 6 5"),
            17: ("stone Ann 1 8 3", "stone 5 1 8 3", "stone annannann 1 8 3", "stone ann 3 8 3", "stone ann 1 9 3",
                 "stone ann 1 8 100", "stone a-n 1 8 3"),
            20: ("found Ann 1 6 9 40 q", "found ann 3 6 9 40 q", "found ann 1 9 9 40 q", "found ann 1 6 100 40 q",
                 "found ann 1 6 9 100 q", "found ann 1 6 41 40 q", "found ann 1 6 9 40 qq", "found ann 1 6 9 40 Q"),
        }
        for number, rows in wrong.items():
            for row in rows:
                self.wrong(with_row(number, row), number)

    def test_deeds_that_stand_on_no_page(self):
        for row in ("plain 2", "calm 0 3", "level 0 6", "amend ann 1 8 3", "strike ann", "lost ann", "round 5", "back",
                    "again", "page", "rest ann", "snout 0 5"):
            for number in (1, 6, 8, 9, len(ROWS)):
                self.wrong(ROWS[:number] + [row] + ROWS[number:], number)

    def test_rows_out_of_order(self):
        for number in range(8, len(ROWS) - 1):
            rows = ROWS[:number] + [ROWS[number + 1], ROWS[number]] + ROWS[number + 2:]
            self.wrong(rows, number + 1)

    def test_rows_far_out_of_order(self):
        for number in range(8, len(ROWS)):
            for later in range(number + 1, len(ROWS)):
                # A row that stands too far down is wrong where it stands.
                rows = ROWS[:number] + ROWS[number + 1:later + 1] + [ROWS[number]] + ROWS[later + 1:]
                self.wrong(rows, later)

    def test_a_row_twice(self):
        for number in range(8, len(ROWS)):
            self.wrong(ROWS[:number + 1] + ROWS[number:], number + 1)

    def test_rows_of_one_key(self):
        for number, row in ((8, "year 2 5 5 5"), (8, "year 2 99 9 9"), (11, "surge 0 3 9"), (14, "cliff 0 6 z"),
                            (17, "stone ann 0 0 0"), (17, "stone ann 2 2 99"), (20, "found ann 0 0 0 0 a"),
                            (20, "found ann 2 2 99 99 z")):
            self.wrong(ROWS[:number + 1] + [row] + ROWS[number + 1:], number + 1)

    def test_the_first_wrong_row_counts(self):
        for number in range(8, len(ROWS)):
            rows = with_row(number, "other")
            self.wrong(rows, number)
            for later in (number + 1, len(ROWS) - 1):
                self.wrong(rows[:later] + ["wrong"] + rows[later:], number)

    def test_each_row_taken_away(self):
        for number in range(len(ROWS)):
            rows = ROWS[:number] + ROWS[number + 1:]
            wanted = first_wrong(rows)
            if wanted is None:
                self.assertEqual(written(read("\n".join(rows))), "\n".join(rows))
            else:
                self.wrong(rows, wanted)

    def test_spoilt_by_chance(self):
        chance = random.Random(23)
        counts = {}
        for step in range(2500):
            rows = list(ROWS) if chance.random() < 0.7 else some_book(chance)[1].page().split("\n")
            for slip in range(chance.choice((1, 1, 1, 2))):
                self.spoil(rows, chance)
            wanted = first_wrong("\n".join(rows).split("\n"))
            counts[wanted is None] = counts.get(wanted is None, 0) + 1
            with self.subTest(rows=rows):
                if wanted is None:
                    self.assertEqual(written(read("\n".join(rows))), "\n".join(rows))
                else:
                    self.wrong(rows, wanted)
        self.assertGreater(min(counts.values()), 100)

    def spoil(self, rows, chance):
        """Change something somewhere."""
        at = chance.randrange(len(rows))
        kind = chance.randrange(7)
        words = rows[at].split(" ")
        word = chance.randrange(len(words))
        if kind == 0:
            del rows[at]
            rows += [] if rows else [""]
        elif kind == 1:
            rows.insert(at, rows[at])
        elif kind == 2:
            other = chance.randrange(len(rows))
            rows[at], rows[other] = rows[other], rows[at]
        elif kind == 3:
            words[word] = chance.choice(("0", "1", "5", "10", "99", "100", "-1", "-0", "05", "a", "ann", "zz", "", "q", "+1"))
            rows[at] = " ".join(words)
        elif kind == 4:
            words.insert(word, chance.choice(("0", "a", "", "7")))
            rows[at] = " ".join(words)
        elif kind == 5:
            del words[word]
            rows[at] = " ".join(words)
        else:
            sign = chance.randrange(len(rows[at]) + 1)
            rows[at] = rows[at][:sign] + chance.choice(" 0159-az~") + rows[at][sign:]

    def test_the_row_is_borne(self):
        self.assertEqual(BadPage(7).row, 7)
        for text, number in (("", 0), ("firn\nreach -1 5\nweather 50 3 2\n", 3)):
            with self.assertRaises(BadPage) as refusal:
                read(text)
            self.assertEqual(vars(refusal.exception), {"row": number})


if __name__ == "__main__":
    unittest.main()
