"""Deeds by chance, most of them sound, some of them wrong in one thing or in several."""

WORDS = ("round", "year", "plain", "surge", "calm", "cliff", "level", "stone", "amend", "strike", "found", "lost")
NAMES = ("a", "b", "ann", "bob", "cleo", "eightlet", "zz", "y")
BAD_NAMES = ("", "ninelette", "Ann", "a b", "a1", "-", "an-n", "a.", "~", "`", "{", "5")
BAD_ROCKS = ("", "ab", "A", "1", " ", "`", "{", "~")
ODD_NUMBERS = (-1, 100, 10 ** 40, 10 ** 41, -10 ** 40, 30, 6, 10, 101)


def some_deed(chance, reaches, slips=0.1):
    """A deed for a book of a valley; each thing of it is wrong, or odd, with this likelihood."""

    def number(most, least=0):
        return chance.choice(ODD_NUMBERS) if chance.random() < slips else chance.randint(least, most)

    def text(fine, wrong):
        return chance.choice(wrong) if chance.random() < slips else chance.choice(fine)

    word = chance.choice(WORDS)
    lane, place = number(len(reaches) // 2), number(6)
    year = number(20)
    name, rock = text(NAMES, BAD_NAMES), text("abc", BAD_ROCKS)
    things = {
        "round": lambda: ([(number(100), number(9), number(9)) for row in range(number(12, 1) % 15)],),
        "year": lambda: (year, number(100), number(9), number(9)),
        "plain": lambda: (year,),
        "surge": lambda: (lane, year, number(9, 1)),
        "calm": lambda: (lane, year),
        "cliff": lambda: (lane, place, rock),
        "level": lambda: (lane, place),
        "stone": lambda: (name, lane, place, year),
        "amend": lambda: (name, lane, place, year),
        "strike": lambda: (name,),
        "found": lambda: (name, lane, place, year, year + number(9), rock),
        "lost": lambda: (name,),
    }[word]()
    if chance.random() < slips / 5:
        return chance.choice([(), (word,), (word, *things, 5), (word, *things[:-1]), ("other", *things), ("",)])
    return (word, *things)
