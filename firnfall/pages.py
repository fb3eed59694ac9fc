"""Pages: books written as texts, and read again."""

from firnfall.book import DEED_KINDS, Book
from firnfall.errors import BadPage, FirnError
from firnfall.valley import is_valley
from firnfall.weather import MOST_ROWS, is_weather

MOST_FIGURES = 41
# The deeds that stand on a page, in their order, and how many things of each tell its place among its like.
PAGE_DEEDS = ("year", "surge", "cliff", "stone", "found")
ORDERED_BY = {"year": 1, "surge": 2, "cliff": 2, "stone": 1, "found": 1}


def written(book):
    """Tell the page of a book."""
    ice = book.ice()
    rows = [("firn",)]
    rows += [("reach", to) + slope for to, slope in ice.reaches()]
    rows += [("weather",) + row for row in ice.rows()]
    rows += [("year", year) + row for year, row in ice.told()]
    rows += [("surge", lane, year, many) for lane in range(ice.many()) for year, many in ice.surges(lane)]
    rows += [("cliff",) + row for row in book.cliffs()]
    rows += [("stone",) + row for row in book.stones()]
    rows += [("found",) + row for row in book.finds()]
    return "\n".join([in_words(row) for row in rows])


def in_words(row):
    """Tell the words and numbers of a row with one blank between."""
    return " ".join([str(part) for part in row])


def number_of(word):
    """Tell the number that a word writes, or None where it is not written as numbers are."""
    figures = word[1:] if word.startswith("-") else word
    if not 1 <= len(figures) <= MOST_FIGURES or not all(["0" <= sign <= "9" for sign in figures]):
        return None
    if figures.startswith("0") and word != "0":
        return None
    return int(word)


def thing_of(kind, word):
    """Tell the thing of a kind that a word writes, or None where it writes none."""
    if kind == "n":
        return number_of(word)
    if kind == "w" and word != "":
        return word
    return None


def things_of(kinds, words):
    """Tell the tuple of the things of these kinds that words write, or None where they write none."""
    if len(words) != len(kinds):
        return None
    things = [thing_of(kind, word) for kind, word in zip(kinds, words)]
    return None if None in things else tuple(things)


def read(text):
    """Tell the Book whose page a text is."""
    rows = [row.split(" ") for row in text.split("\n")]
    if rows[0] != ["firn"]:
        raise BadPage(0)
    reaches = read_reaches(rows[1:])
    ahead = 1 + len(reaches)
    cycle = read_weather(rows[ahead:])
    if not is_valley(reaches) or not cycle:
        raise BadPage(ahead)
    book = Book(reaches, cycle)
    do_rows(book, rows, ahead + len(cycle))
    book.forget()
    return book


def read_reaches(rows):
    """Tell the reaches that the first rows are, as far as they are of the form."""
    reaches = []
    for word, *words in rows:
        numbers = things_of("n" * len(words), words)
        if word != "reach" or numbers is None or len(numbers) < 2:
            break
        reaches.append((numbers[0], numbers[1:]))
    return reaches


def read_weather(rows):
    """Tell the rows of weather that the first rows are, as far as they can stand in a round."""
    cycle = []
    for word, *words in rows[:MOST_ROWS]:
        row = things_of("nnn", words)
        if word != "weather" or row is None or not is_weather(row):
            break
        cycle.append(row)
    return cycle


def do_rows(book, rows, start):
    """Do the deeds that the rows from this number on write, each behind the one ahead of it."""
    last = (-1,)
    for number in range(start, len(rows)):
        deed = deed_of(rows[number])
        if deed is None or rank_of(deed) <= last:
            raise BadPage(number)
        last = rank_of(deed)
        try:
            book.do(deed)
        except FirnError:
            raise BadPage(number)


def deed_of(words):
    """Tell the deed that the words of a row write, or None where none such stands on a page."""
    word = words[0]
    if word not in PAGE_DEEDS:
        return None
    things = things_of(DEED_KINDS[word], words[1:])
    return None if things is None else (word,) + things


def rank_of(deed):
    """Tell what puts a deed in its place on the page."""
    return (PAGE_DEEDS.index(deed[0]),) + deed[1:1 + ORDERED_BY[deed[0]]]
