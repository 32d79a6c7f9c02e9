import itertools
import random
import unittest

from editionrows.changes import is_change
from editionrows.columns import Column
from editionrows.errors import BadChange, BadColumn, BadPart, BadText, TooMany
from editionrows.histories import History
from editionrows.texts import read_change, read_history, read_told, write_change, write_history, write_told
from tests import model
from tests.helpers import STRANGE, Alike, Case, history_of

CHANGES = [
    (("add", "a", 1, None), "add a 1 -"), (("add", "abcdefgh", 99, 0), "add abcdefgh 99 0"), (("add", "b", 5, 10), "add b 5 10"),
    (("drop", "a"), "drop a"), (("rename", "a", "b"), "rename a b"), (("rename", "a", "a"), "rename a a"),
    (("rename", "drop", "add"), "rename drop add"), (("default", "a", None), "default a -"), (("default", "a", 0), "default a 0"),
    (("default", "a", 99), "default a 99"), (("greatest", "a", 1, "cut"), "greatest a 1 cut"),
    (("greatest", "a", 10, "none"), "greatest a 10 none"), (("greatest", "cut", 99, "refuse"), "greatest cut 99 refuse"),
    (("fill", "a", 0), "fill a 0"), (("fill", "a", 90), "fill a 90"),
]
NO_TEXTS = [None, 0, True, b"drop a", ["drop", "a"], ("drop", "a"), object(), object, Alike(), {}, {"drop a"}]
NO_CHANGES = [
    "", " ", "\n", "drop", "drop ", " drop a", "drop a ", "drop  a", "drop\ta", "drop a\n", "drop A", "drop a b", "Drop a",
    "drop 1", "drop abcdefghi", "drop -", "drop a-b", "rename a", "rename a b c", "rename a 1", "rename a -", "rename a B",
    "default a", "default a ", "default a 00", "default a 01", "default a 100", "default a +1", "default a -1", "default a --",
    "default a None", "default a 1.0", "default a 1 2", "default a x", "default a 1_0", "default a \u0661", "default a \u00b2",
    "default \u0430 1", "add a", "add a 1", "add a 0 0", "add a - 0", "add a 1 0 0", "add a 01 0", "add a 1 00", "add a 100 0",
    "add a 1 100", "add a 1  0", "greatest a 1", "greatest a 0 cut", "greatest a - cut", "greatest a 1 trim",
    "greatest a cut 1", "greatest a 1 Cut", "greatest a 01 cut", "greatest a 100 cut", "greatest a 1 cut ", "fill a -",
    "fill a", "fill a 007", "fill a 1 1", "fill a ?", "column a 1 0", "undo", "drop\u00a0a", "drop a\r", "fill a \uff11",
]


class Changes(Case):

    def test_both_ways(self):
        for change, text in CHANGES:
            self.same(write_change(change), text)
            self.same(read_change(text), change)

    def test_no_change(self):
        for text in NO_CHANGES + NO_TEXTS:
            self.fails(BadText, 0, read_change, text)

    def test_all_words(self):
        """What is read is what was written, and nothing else is read."""
        words = ["add", "drop", "rename", "default", "greatest", "fill", "column", "a", "zz", "cut", "none", "refuse", "-", "0",
                 "7", "10", "99", "00", "100", ""]
        many = 0
        for length in range(1, 5):
            for told in itertools.product(words, repeat=length):
                text = " ".join(told)
                try:
                    change = read_change(text)
                except BadText:
                    continue
                many += 1
                self.assertTrue(is_change(change))
                self.same(write_change(change), text)
        # The names are those of twelve words; so many changes have a text of these words.
        names, numbers, values = 12, 3, 5
        self.assertEqual(many, names * (1 + names + values + numbers * 3 + (values - 1) + numbers * values))


HISTORIES = [
    ("column a 1 -", [("a", 0, 1, None)], []),
    ("column a 99 99\ncolumn b 1 0", [("a", 0, 99, 99), ("b", 1, 1, 0)], []),
    ("column a 3 1\nadd b 9 -\nrename a c\ngreatest c 2 refuse\ndrop b\nfill c 0", [("a", 0, 3, 1)],
     [("add", "b", 9, None), ("rename", "a", "c"), ("greatest", "c", 2, "refuse"), ("drop", "b"), ("fill", "c", 0)]),
    ("column column 5 5\ncolumn drop 5 -\ndefault drop 3", [("column", 0, 5, 5), ("drop", 1, 5, None)],
     [("default", "drop", 3)]),
]


class Histories(Case):

    def test_both_ways(self):
        for text, first, changes in HISTORIES:
            history = history_of(first, changes)
            self.same(write_history(history), text)
            self.same(read_history(text), history)

    def test_drawn(self):
        chance = random.Random(47)
        for _ in range(150):
            first, changes, _ = model.drawn_history(chance, chance.randint(0, 8), chance.choice([2, 9, 99]))
            history = history_of(first, changes)
            text = write_history(history)
            self.assertEqual(len(text.split("\n")), len(first) + len(changes))
            self.same(read_history(text), history)

    def test_rows_that_are_none(self):
        for row in NO_CHANGES:
            if "\n" not in row and row != "column a 1 0":
                self.fails(BadText, 0, read_history, row)
                self.fails(BadText, 1, read_history, "column a 1 0\n" + row)
                self.fails(BadText, 2, read_history, "column a 1 0\nfill a 1\n" + row + "\ndrop\ncolumn")
        for row in ["column", "column ", "column a", "column a 1", "column a 0 0", "column a 100 0", "column a 01 0",
                    "column a - 0", "column a 1 01", "column a 1 100", "column a 1 0 0", "column A 1 0", "column a 1 x",
                    "Column a 1 0", " column a 1 0", "column  a 1 0", "column a 1 0 ", "columna 1 0", "column abcdefghi 1 0",
                    "columns a 1 0", "column a 1 +0", "column a 1 cut", "column a 1 \u0660", "add", "column a 1 0\r"]:
            self.fails(BadText, 0, read_history, row)
            self.fails(BadText, 1, read_history, "column b 1 0\n" + row)
            self.fails(BadText, 2, read_history, "column b 1 2\ndrop z\n" + row)

    def test_empty_rows(self):
        for text, index in [("", 0), ("\n", 0), ("\ncolumn a 1 0", 0), ("column a 1 0\n", 1), ("column a 1 0\n\nfill a 1", 1),
                            ("column a 1 0\nfill a 1\n", 2), ("column a 1 0\r\nfill a 1", 0), ("column a 1 0\n ", 1)]:
            self.fails(BadText, index, read_history, text)

    def test_a_column_behind_a_change(self):
        self.fails(BadText, 2, read_history, "column a 1 0\nfill a 1\ncolumn b 1 0")
        self.fails(BadText, 1, read_history, "drop a\ncolumn a 1 0")
        # The form of all rows comes ahead of what can be.
        self.fails(BadText, 3, read_history, "column a 1 5\ncolumn a 1 0\ndrop z\ncolumn b 1 0")

    def test_no_string(self):
        for value in NO_TEXTS + STRANGE:
            if not isinstance(value, str):
                self.fails(BadText, 0, read_history, value)

    def test_what_cannot_be(self):
        self.fails(BadPart, "default", read_history, "column a 1 2")
        self.fails(BadPart, "default", read_history, "column a 1 0\ncolumn a 1 2\ndrop z")
        self.fails(BadColumn, 1, read_history, "column a 1 0\ncolumn a 2 0\ndrop z")
        self.fails(BadColumn, None, read_history, "drop a")
        self.fails(BadChange, 0, read_history, "column a 1 0\ndrop a")
        self.fails(BadChange, 1, read_history, "column a 1 0\nadd b 2 0\nadd c 1 2\ndrop z")
        seven = "\n".join(f"column {name} 1 0" for name in "abcdefg")
        self.fails(TooMany, 6, read_history, seven)
        self.fails(TooMany, 40, read_history, "column a 1 0" + "\nfill a 1" * 41)
        self.assertEqual(len(read_history("column a 1 0" + "\nfill a 1" * 40)), 40)


class Told(Case):

    def test_both_ways(self):
        for text, told in [("", {}), ("a 0", {"a": 0}), ("b - a 12", {"b": None, "a": 12}), ("drop 1 fill -", {"drop": 1, "fill": None}),
                           ("abcdefgh 99", {"abcdefgh": 99})]:
            self.same(read_told(text), told)
            self.assertEqual(list(read_told(text)), list(told))
            self.same(write_told(told), text)

    def test_what_is_told_is_new(self):
        read_told("a 1").clear()
        self.same(read_told("a 1"), {"a": 1})

    def test_no_telling(self):
        for text in [" ", "a", "a ", " a 1", "a 1 ", "a  1", "a 1  b 2", "a 1 b", "a 1 b ", "1 a", "a b", "A 1", "a 01", "a 100",
                     "a +1", "a -1", "a --", "a 1\n", "a 1\nb 2", "a\t1", "a 1 a 1", "a 1 b 2 a 3", "a 1,b 2", "a=1", "abcdefghi 1",
                     "a \u0661", "- 1", "a 00", "a 1 - 2", "\n"]:
            self.fails(BadText, 0, read_told, text)
        for value in NO_TEXTS + STRANGE:
            if value != "" or not isinstance(value, str):
                self.fails(BadText, 0, read_told, value)


class Example(Case):

    def test_by_name(self):
        self.same(write_change(change=("drop", "a")), "drop a")
        self.same(write_history(history=History([Column("a", 1)])), "column a 1 -")
        self.same(write_told(told={"a": None}), "a -")
        self.same(read_change(text="drop a"), ("drop", "a"))
        self.same(read_history(text="column a 1 -"), History([Column("a", 1)]))
        self.same(read_told(text="a -"), {"a": None})


if __name__ == "__main__":
    unittest.main()
