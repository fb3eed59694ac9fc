import pathlib
import unittest

from language import breaches

FOLDER = pathlib.Path(__file__).resolve().parent.parent / "firnfall"

BAD_ROWS = [
    "import firnfall.errors",
    "from os import path",
    "from firnfall.errors import nothing",
    "from .errors import Bad",
    "print(1)",
    "A = 1\nA = 2",
    "A = 1.5",
    "A = \"5 % 3\"",
    "A = 2 ** -1",
    "def f(*rows):\n    return 1",
    "def f(rows):\n    return sum(row for row in rows)",
    "def f(row):\n    return row / 2",
    "def f(row):\n    return row is row",
    "def f(row):\n    return row.format(1)",
    "def f(row):\n    return hash(row)",
    "def f(row):\n    return row.union(row)",
    "def f(round):\n    return 1",
    "def f(row):\n    _ = row",
    "def f(row):\n    global A",
    "def f(row):\n    for k in row:\n        pass\n    else:\n        pass",
    "def f(row):\n    with row:\n        pass",
    "def f(row):\n    try:\n        pass\n    except:\n        pass",
    "def f(row):\n    try:\n        pass\n    except Exception:\n        pass",
    "def f(row):\n    raise ValueError",
    "def f(row):\n    # of this type\n    return 1",
    "def f(row):\n    # \u00e9\n    return 1",
    "def f(row):\n\tpass",
    "def f(row):\n    return " + "1" + " + 1" * 40,
    "def f(row):\n" + "    row += 1\n" * 40,
    "class A(ValueError, KeyError):\n    pass",
    "class A:\n    many = 1",
    "class A:\n    def f(self):\n        pass\n\n    def f(self):\n        pass",
    "class A:\n    def f(self):\n        self.f = 1",
    "def f(row):\n    return row.many",
    "from firnfall.errors import Bad\n\n\ndef f(Bad):\n    return 1",
    "class A:\n    pass\n\n\ndef f(row):\n    A = row\n    return A",
]


class LanguageTest(unittest.TestCase):
    def test_the_package_keeps_to_its_part_of_python(self):
        sources = {path.name: path.read_text(encoding="utf-8") for path in FOLDER.glob("*.py")}
        self.assertIn("__init__.py", sources)
        self.assertEqual(breaches(sources), [])

    def test_nothing_else_lies_in_the_package(self):
        others = [path.name for path in FOLDER.iterdir() if path.suffix != ".py" and path.name != "__pycache__"]
        self.assertEqual(others, [])

    def test_breaches_are_seen(self):
        errors = "class Bad(ValueError):\n    pass\n"
        for text in BAD_ROWS:
            with self.subTest(text=text):
                self.assertNotEqual(breaches({"errors.py": errors, "other.py": text}), [])

    def test_good_rows_are_passed(self):
        errors = "class Bad(ValueError):\n    pass\n"
        text = "from firnfall.errors import Bad\n\n\ndef f(row):\n    if row is None:\n        raise Bad(\"no\")\n"
        self.assertEqual(breaches({"errors.py": errors, "other.py": text}), [])

    def test_a_value_that_a_class_gives_may_be_asked(self):
        text = "class A:\n    def __init__(self, row):\n        self.row = row\n\n    def f(self):\n        return self.row\n"
        self.assertEqual(breaches({"one.py": text, "two.py": "def f(a):\n    return a.row\n"}), [])

    def test_files_that_draw_from_one_another_are_seen(self):
        sources = {
            "one.py": "from firnfall.two import B\n\nA = 1\n",
            "two.py": "from firnfall.three import C\n\nB = 1\n",
            "three.py": "from firnfall.one import A\n\nC = 1\n",
        }
        self.assertEqual(len(breaches(sources)), 3)


if __name__ == "__main__":
    unittest.main()
