"""A desk: a book that is told and asked by lines of words."""

from firnfall.book import DEED_KINDS, Book
from firnfall.ends import birth_of, end_of
from firnfall.errors import BadHand, BadName, BadRock, BadSurge, BadWeather, BadYear, Full, NoLane, NoName, NoPlace
from firnfall.errors import NotTold, NothingThere, Taken
from firnfall.lives import pile
from firnfall.pages import in_words, things_of, written
from firnfall.snouts import snout
from firnfall.sums import so_far, sums


def take_back(book, things):
    """Take the last deed that stands back."""
    book.back()
    return "done"


def do_again(book, things):
    """Do again what was taken back last."""
    book.again()
    return "done"


def tell_pile(book, things):
    """Tell the runs of a pile from the lowest to the top."""
    lane, place, year = things
    runs = pile(book.ice(), lane, place, year)
    return "; ".join([in_words(run) for run in runs]) if runs else "bare"


def tell_end(book, things):
    """Tell how a hand ends."""
    lane, place, year, layer = things
    return in_words(end_of(book.ice(), lane, place, year, layer))


def tell_birth(book, things):
    """Tell where a hand that the sun takes fell."""
    lane, place, year, turn = things
    return in_words(birth_of(book.ice(), lane, place, year, turn))


def tell_snout(book, things):
    """Tell the snout of a lane in a year."""
    lane, year = things
    place = snout(book.ice(), lane, year)
    return "none" if place is None else str(place)


def tell_sums(book, things):
    """Tell the sums of a lane in a year."""
    lane, year = things
    return in_words(sums(book.ice(), lane, year))


def tell_so_far(book, things):
    """Tell the sums of a lane up to a year."""
    lane, year = things
    return in_words(so_far(book.ice(), lane, year))


def tell_rest(book, things):
    """Tell where a stone ends."""
    return in_words(book.rest(things[0]))


def tell_page(book, things):
    """Tell the page of the book."""
    return written(book)


ANSWERS = {
    "back": take_back, "again": do_again, "pile": tell_pile, "end": tell_end, "birth": tell_birth,
    "snout": tell_snout, "sums": tell_sums, "sofar": tell_so_far, "rest": tell_rest, "page": tell_page,
}
# The kinds of the things of each line that is no deed, as those of deeds are told.
ANSWER_KINDS = {
    "back": "", "again": "", "pile": "nnn", "end": "nnnn", "birth": "nnnn", "snout": "nn", "sums": "nn",
    "sofar": "nn", "rest": "w", "page": "",
}


def answer(book, line):
    """Tell the answer of a book to a line."""
    word, *words = line.split(" ")
    kinds = DEED_KINDS.get(word, ANSWER_KINDS.get(word))
    things = None if kinds is None else things_of(kinds, words)
    if things is None:
        return "no line"
    if word in DEED_KINDS:
        book.do((word,) + things)
        return "done"
    told = ANSWERS[word]
    return told(book, things)


class Desk:
    """A book that answers lines."""

    def __init__(self, reaches, rows):
        self.ledger = Book(reaches, rows)

    def book(self):
        """Tell a twin of the desk's book."""
        return self.ledger.twin()

    def say(self, line):
        """Tell the answer to a line, a refusal by its class's name."""
        try:
            return answer(self.ledger, line)
        except BadWeather:
            return "no BadWeather"
        except BadYear:
            return "no BadYear"
        except BadSurge:
            return "no BadSurge"
        except BadRock:
            return "no BadRock"
        except BadName:
            return "no BadName"
        except BadHand:
            return "no BadHand"
        except NoLane:
            return "no NoLane"
        except NoPlace:
            return "no NoPlace"
        except NoName:
            return "no NoName"
        except NotTold:
            return "no NotTold"
        except NothingThere:
            return "no NothingThere"
        except Taken:
            return "no Taken"
        except Full:
            return "no Full"
