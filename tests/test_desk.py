import itertools
import random
import string
import unittest

from deeds import BAD_NAMES, BAD_ROCKS, some_deed
from firnfall.book import Book
from firnfall.desk import Desk
from firnfall.ends import birth_of, end_of
from firnfall.errors import BadRound, BadValley, FirnError, NothingThere
from firnfall.lives import pile
from firnfall.pages import written
from firnfall.snouts import snout
from firnfall.sums import so_far, sums
from plainbook import PlainBook
from samples import BEHIND, LAST_ASKED, ONE, SHORT, SIX, TWELVE, TWO, WAVES

# Something of each kind, told by lines.
TOLD_LINES = (
    "year 5 10 3 1", "year 2 20 0 9", "surge 0 4 2", "surge 1 4 9", "cliff 1 2 q", "cliff 0 6 a", "stone bob 1 0 7",
    "stone ann 1 8 3", "found bob 1 5 0 99 a", "found ann 1 6 9 40 q",
)
LINES = TOLD_LINES + (
    "plain 5", "calm 0 4", "level 1 2", "amend bob 0 0 99", "strike bob", "lost bob", "back", "again", "pile 1 2 9",
    "end 1 0 8 0", "birth 1 5 9 0", "snout 1 9", "sums 1 9", "sofar 1 9", "rest ann", "page",
)


def told_desk():
    """A desk that was told something of each kind."""
    desk = Desk(BEHIND, TWO)
    for line in TOLD_LINES:
        desk.say(line)
    return desk


def as_line(deed):
    """A deed written as a line."""
    return " ".join(str(part) for part in deed)


def answer_of(ask, *things):
    """What a function tells, in words, or its refusal."""
    try:
        told = ask(*things)
    except FirnError as refusal:
        return "no " + refusal.__class__.__name__
    return " ".join(str(part) for part in told)


class DeskCase(unittest.TestCase):
    def said(self, desk, answers):
        """Each line, in turn, is answered so."""
        for line, answer in answers.items():
            with self.subTest(line=line):
                self.assertEqual(desk.say(line), answer)

    def unchanged(self, desk, lines, answer):
        """Each line is answered so and changes nothing."""
        before = desk.say("page")
        for line in lines:
            with self.subTest(line=line):
                self.assertEqual(desk.say(line), answer)
                self.assertEqual(desk.say("page"), before)


class NewDeskTest(DeskCase):
    def test_it_keeps_a_book(self):
        desk = Desk(reaches=BEHIND, rows=TWO)
        self.assertEqual(written(desk.book()), written(Book(BEHIND, TWO)))
        self.assertEqual(desk.say(line="page"), written(Book(BEHIND, TWO)))

    def test_refusals_in_their_order(self):
        for reaches, rows in itertools.product(([], [(0, (5,))]), (ONE, [])):
            with self.assertRaises(BadValley):
                Desk(reaches, rows)
        for rows in ([], ONE * 13, [(0, 10, 0)]):
            with self.assertRaises(BadRound):
                Desk(BEHIND, rows)

    def test_what_is_handed_in_is_not_kept(self):
        reaches, rows = list(BEHIND), list(TWO)
        desk = Desk(reaches, rows)
        reaches.clear()
        rows.clear()
        self.assertEqual(desk.say("page"), written(Book(BEHIND, TWO)))


class DeedTest(DeskCase):
    def test_each_deed(self):
        desk = Desk(BEHIND, TWO)
        for line in TOLD_LINES:
            self.assertEqual(desk.say(line), "done")
        head = written(Book(BEHIND, TWO)).split("\n")
        rows = ["year 2 20 0 9", "year 5 10 3 1", "surge 0 4 2", "surge 1 4 9", "cliff 0 6 a", "cliff 1 2 q"]
        rows += ["stone ann 1 8 3", "stone bob 1 0 7", "found ann 1 6 9 40 q", "found bob 1 5 0 99 a"]
        self.assertEqual(desk.say("page").split("\n"), head + rows)
        lines = ("plain 5", "calm 0 4", "level 1 2", "amend bob 0 0 99", "strike ann", "lost bob", "year 2 0 9 0")
        for line in lines:
            self.assertEqual(desk.say(line), "done")
        rows = ["year 2 0 9 0", "surge 1 4 9", "cliff 0 6 a", "stone bob 0 0 99", "found ann 1 6 9 40 q"]
        self.assertEqual(desk.say("page").split("\n"), head + rows)
        for line in lines:
            self.assertEqual(desk.say("back"), "done")
        self.assertEqual(desk.say("rest bob"), answer_of(desk.book().rest, "bob"))

    def test_refusals(self):
        desk = told_desk()
        refusals = {
            "BadYear": ("year 100 5 5 5", "year -1 101 5 5", "plain 100", "surge 0 100 0", "calm 0 -1",
                        "stone n 0 0 100", "amend bob 0 0 100", "found n 0 0 5 100 A", "found n 0 0 6 5 A"),
            "BadWeather": ("year 5 101 5 5", "year 6 5 10 5", "year 6 5 5 -1"),
            "NotTold": ("plain 50", "calm 0 50", "calm 2 4", "level 0 0"),
            "NoLane": ("surge 3 100 0", "calm -1 100", "cliff 3 9 A", "level 3 0", "stone n 3 9 100", "amend bob 3 9 100",
                       "found n -1 9 6 5 A"),
            "NoPlace": ("cliff 0 7 A", "level 0 -1", "stone n 0 7 100", "amend bob 0 7 100", "found n 0 7 6 5 A"),
            "BadSurge": ("surge 0 5 0", "surge 0 5 10", "surge 0 5 -9"),
            "BadRock": ("cliff 0 0 A", "cliff 0 0 ab", "cliff 0 0 5", "found n 0 0 5 5 A", "found n 0 0 5 5 55"),
            "BadName": ("stone N 3 9 100", "stone 5 0 0 0", "stone ninelette 0 0 0", "found a-b 3 9 6 5 A"),
            "Taken": ("stone bob 3 9 100", "found ann 3 9 6 5 A"),
            "NoName": ("amend N 3 9 100", "amend cleo 0 0 0", "strike cleo", "strike 5", "lost cleo", "lost ~", "rest cleo",
                       "rest -5", "rest bo!b"),
        }
        for name, lines in refusals.items():
            self.unchanged(desk, lines, "no " + name)

    def test_full(self):
        desk = Desk(SIX, ONE)
        for name in string.ascii_lowercase[:12]:
            self.assertEqual(desk.say(f"found {name} 0 0 5 5 a"), "done")
        self.unchanged(desk, ["found z 0 0 5 5 a"], "no Full")
        for year in range(40):
            self.assertEqual(desk.say(f"year {year} 5 5 5"), "done")
        self.unchanged(desk, ["year 40 5 5 5"], "no Full")

    def test_back_and_again(self):
        desk = Desk(BEHIND, TWO)
        self.assertEqual([desk.say("back"), desk.say("again")], ["no NothingThere"] * 2)
        pages = [desk.say("page")]
        for line in TOLD_LINES:
            desk.say(line)
            pages.append(desk.say("page"))
        for page in pages[-2::-1]:
            self.assertEqual(desk.say("back"), "done")
            self.assertEqual(desk.say("page"), page)
        self.assertEqual(desk.say("back"), "no NothingThere")
        for page in pages[1:]:
            self.assertEqual(desk.say("again"), "done")
            self.assertEqual(desk.say("page"), page)
        self.assertEqual(desk.say("again"), "no NothingThere")
        # What is refused, asked or no line is no deed, and forgets nothing.
        desk.say("back")
        for line in ("plain 50", "snout 0 5", "nothing"):
            desk.say(line)
        self.assertEqual(desk.say("again"), "done")
        self.assertEqual(desk.say("page"), pages[-1])

    def test_names_and_rocks_of_any_signs(self):
        desk = told_desk()
        for word in BAD_NAMES:
            if word and " " not in word:
                self.unchanged(desk, [f"stone {word} 0 0 0", f"found {word} 0 0 0 0 a"], "no BadName")
                self.unchanged(desk, [f"amend {word} 0 0 0", f"strike {word}", f"lost {word}", f"rest {word}"], "no NoName")
        for word in BAD_ROCKS:
            if word and " " not in word:
                self.unchanged(desk, [f"cliff 0 0 {word}", f"found n 0 0 0 0 {word}"], "no BadRock")
        for sign in map(chr, range(33, 127)):
            if sign != "%" and not "a" <= sign <= "z":
                self.unchanged(desk, [f"stone {sign} 0 0 0"], "no BadName")
                self.unchanged(desk, [f"cliff 0 0 {sign}"], "no BadRock")

    def test_deeds_by_chance(self):
        chance = random.Random(31)
        desk, plain = Desk(WAVES, TWO), PlainBook(WAVES, TWO)
        for step in range(900):
            deed = some_deed(chance, WAVES)
            kind = chance.random()
            if kind < 0.1:
                line, refusal = "back", plain.back()
            elif kind < 0.2:
                line, refusal = "again", plain.again()
            elif not deed or deed[0] == "round":
                line, refusal = as_line(deed[:1] + (5,)), "line"
            elif any(str(thing) == "" or " " in str(thing) or len(str(thing).strip("-")) > 41 for thing in deed):
                line, refusal = as_line(deed), "line"
            else:
                line, refusal = as_line(deed), plain.refusal(deed)
                refusal = "line" if refusal == "BadDeed" else refusal
                if refusal is None:
                    plain.do(deed)
            self.assertEqual(desk.say(line), "done" if refusal is None else "no " + refusal)
            self.assertEqual(desk.say("page"), plain.page())


class QuestionTest(DeskCase):
    def test_piles(self):
        desk = Desk(SHORT, ONE)
        self.said(desk, {
            "pile 0 0 7": "7 0 3", "pile 0 1 7": "6 0 3; 7 1 3", "pile 0 2 7": "5 0 3; 6 1 1", "pile 0 2 0": "bare",
            "pile 1 3 -1": "no NoLane", "pile 0 3 -1": "no NoPlace", "pile 0 2 -1": "no BadYear",
        })
        year = LAST_ASKED
        self.assertEqual(desk.say(f"pile 0 2 {year}"), f"{year - 2} 0 3; {year - 1} 1 1")
        self.assertEqual(desk.say(f"pile 0 2 {year + 1}"), "no BadYear")

    def test_ends_and_births(self):
        desk = Desk(SHORT, ONE)
        self.said(desk, {
            "end 0 1 6 0": "off 8", "end 0 1 6 1": "melt 7 2 1", "end 0 1 6 3": "no BadHand", "end 0 1 6 -1": "no BadHand",
            "end 1 3 -1 -1": "no NoLane", "end 0 3 -1 -1": "no NoPlace", "end 0 2 -1 -1": "no BadYear",
            "birth 0 2 7 0": "6 1 2", "birth 0 2 7 1": "6 1 1", "birth 0 2 7 2": "no BadHand",
            "birth 0 2 7 -1": "no BadHand", "birth 1 3 -1 -1": "no NoLane", "birth 0 3 -1 -1": "no NoPlace",
            "birth 0 2 -1 -1": "no BadYear", "birth 0 0 7 0": "no BadHand",
        })
        self.assertEqual(desk.say(f"end 0 1 {LAST_ASKED} 2"), f"melt {LAST_ASKED + 1} 2 0")
        self.assertEqual(desk.say(f"birth 0 2 {LAST_ASKED} 0"), f"{LAST_ASKED - 1} 1 2")
        self.assertEqual(desk.say("end 0 1 6 " + "9" * 41), "no BadHand")
        self.assertEqual(desk.say("end 0 1 6 -" + "9" * 41), "no BadHand")

    def test_snouts(self):
        desk = Desk(SHORT, ONE)
        self.said(desk, {"snout 0 0": "1", "snout 0 1": "2", "snout 1 -1": "no NoLane", "snout 0 -1": "no BadYear"})
        self.assertEqual(Desk(SHORT, [(100, 0, 0)]).say("snout 0 5"), "none")
        self.assertEqual(Desk([(-1, (60, 10))], [(50, 1, 9)]).say("snout 0 5"), "0")
        self.assertEqual(desk.say(f"snout 0 {LAST_ASKED}"), "2")
        self.assertEqual(desk.say(f"snout 0 {LAST_ASKED + 1}"), "no BadYear")

    def test_sums(self):
        desk = Desk(SHORT, ONE)
        self.said(desk, {
            "sums 0 2": "6 2 1 13", "sofar 0 2": "18 4 1 13", "sums 1 -1": "no NoLane", "sums 0 -1": "no BadYear",
            "sofar 1 -1": "no NoLane", "sofar 0 -1": "no BadYear",
        })
        self.assertEqual(desk.say(f"sofar 0 {LAST_ASKED}"), as_line(so_far(desk.book().ice(), 0, LAST_ASKED)))

    def test_rests(self):
        desk = Desk(SHORT, ONE)
        desk.say("stone ann 0 0 5")
        desk.say("stone bob 0 2 0")
        self.said(desk, {"rest ann": "off 8", "rest bob": "left 0 2", "rest cleo": "no NoName", "rest Ann": "no NoName"})

    def test_each_question_against_the_functions(self):
        desk = told_desk()
        ice = desk.book().ice()
        years = (0, 1, 4, 5, 9, 30, 99, LAST_ASKED, LAST_ASKED + 1, -1)
        for lane, year in itertools.product(range(-1, 4), years):
            self.assertEqual(desk.say(f"sums {lane} {year}"), answer_of(sums, ice, lane, year))
            self.assertEqual(desk.say(f"sofar {lane} {year}"), answer_of(so_far, ice, lane, year))
            told = answer_of(lambda: [snout(ice, lane, year)])
            self.assertEqual(desk.say(f"snout {lane} {year}"), "none" if told == "None" else told)
            for place in range(-1, 10):
                told = answer_of(lambda: ["; ".join(as_line(run) for run in pile(ice, lane, place, year)) or "bare"])
                self.assertEqual(desk.say(f"pile {lane} {place} {year}"), told)
                for hand in (-1, 0, 2):
                    wanted = answer_of(end_of, ice, lane, place, year, hand)
                    self.assertEqual(desk.say(f"end {lane} {place} {year} {hand}"), wanted)
                    wanted = answer_of(birth_of, ice, lane, place, year, hand)
                    self.assertEqual(desk.say(f"birth {lane} {place} {year} {hand}"), wanted)

    def test_the_page(self):
        desk = told_desk()
        self.assertEqual(desk.say("page"), written(desk.book()))

    def test_answers_are_texts(self):
        desk = told_desk()
        for line in LINES + ("", "nothing", "plain 50"):
            self.assertIs(type(desk.say(line)), str)


class NoLineTest(DeskCase):
    def test_lines_that_are_nearly_of_a_form(self):
        desk = told_desk()
        for line in LINES:
            word, *words = line.split(" ")
            others = [" " + line, line + " ", line + " 5", line + " a", line.upper(), word.title() + line[len(word):],
                      "x" + line, word + "x" + line[len(word):], "5 " + line]
            if words:
                others += [word, word + " ", line.replace(" ", "  ", 1), " ".join(line.split(" ")[:-1])]
                others += [line.replace(" ", "  "), word + " " + line]
            self.unchanged(desk, others, "no line")

    def test_numbers_that_are_none(self):
        desk = told_desk()
        for line in LINES:
            words = line.split(" ")
            for at, word in enumerate(words):
                if word.isdigit():
                    for other in ("0" + word, "+" + word, "-0", "00", "a", word + "a", "--1", "-", "5.0", "1_0", "1e3",
                                  "0x1", "9" * 42, "-" + "9" * 42, "-05", "five", word + ",", "'5'", ""):
                        self.unchanged(desk, [" ".join(words[:at] + [other] + words[at + 1:])], "no line")

    def test_numbers_below_nought_and_of_41_figures_are_some(self):
        desk = told_desk()
        for line in LINES:
            words = line.split(" ")
            for at, word in enumerate(words):
                if word.isdigit():
                    for other in ("-1", "9" * 41, "-" + "9" * 41):
                        told = desk.say(" ".join(words[:at] + [other] + words[at + 1:]))
                        self.assertRegex(told, "^no (NoLane|NoPlace|Bad[A-Z][a-z]+|Taken|NotTold)$")

    def test_other_lines(self):
        desk = told_desk()
        self.unchanged(desk, [
            "", " ", "  ", "nothing", "round", "round 5", "round 50 3 2", "weather 50 3 2", "reach -1 5", "firn", "read",
            "twin", "stones", "cliffs", "finds", "way ann", "piled 0 0 5", "brought", "book", "ice", "snouts 0", "so_far 0 5",
            "end_of 0 1 6 0", "hidden 0 0 5", "quit", "help", "~", "5", "-", "back 1", "again 1", "page 1", "rest", "rest ann bob",
            "done", "no", "no line", "b" * 200,
        ], "no line")

    def test_a_line_of_many_signs(self):
        desk = told_desk()
        self.unchanged(desk, ["rest " + "a" * 195], "no NoName")
        self.unchanged(desk, ["stone " + "a" * 180 + " 0 0 0"], "no BadName")


class BookTest(DeskCase):
    def test_the_told_book_is_a_twin(self):
        desk = told_desk()
        desk.say("back")
        page = desk.say("page")
        book = desk.book()
        self.assertIs(type(book), Book)
        self.assertEqual(written(book), page)
        book.again()
        self.assertEqual([find[0] for find in book.finds()], ["ann", "bob"])
        for step in range(10):
            book.back()
        with self.assertRaises(NothingThere):
            book.back()
        book.do(("round", TWELVE))
        self.assertEqual(desk.say("page"), page)
        self.assertEqual(desk.say("again"), "done")

    def test_the_desk_goes_its_own_way(self):
        desk = told_desk()
        book = desk.book()
        before = written(book)
        for line in ("lost bob", "plain 5", "back", "strike ann", "calm 0 4", "level 0 6"):
            self.assertEqual(desk.say(line), "done")
        self.assertEqual(written(book), before)

    def test_asked_all_along(self):
        """Desks, books and twins asked between deeds tell the same as books that were told the same anew."""
        chance = random.Random(32)
        desk, plain = Desk(WAVES, TWO), PlainBook(WAVES, TWO)
        questions = ["snout 0 9", "sums 1 7", f"sofar 0 {LAST_ASKED}", "pile 0 3 6", "end 0 0 5 0", "birth 0 1 6 0", "page"]
        for step in range(150):
            deed = some_deed(chance, WAVES, 0)
            kind = chance.random()
            if kind < 0.2:
                line, refusal = "back", plain.back()
            elif kind < 0.35:
                line, refusal = "again", plain.again()
            elif deed[0] == "round":
                continue
            else:
                line, refusal = as_line(deed), plain.do(deed)
            self.assertEqual(desk.say(line), "no " + refusal if refusal else "done")
            other = Desk(WAVES, TWO)
            for row in plain.page().split("\n")[6:]:
                self.assertEqual(other.say(row), "done")
            names = [f"rest {row[0]}" for row in plain.told_anew().stones()]
            self.assertEqual([desk.say(line) for line in questions + names], [other.say(line) for line in questions + names])
            self.assertEqual(written(desk.book()), written(plain.told_anew()))


if __name__ == "__main__":
    unittest.main()
