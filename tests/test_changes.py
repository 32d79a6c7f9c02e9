import unittest

from editionrows.changes import changed_columns, changed_value, is_change, kind_of, why_not
from editionrows.columns import Column
from editionrows.errors import BadChange, CannotBe
from tests.helpers import STRANGE, Alike, Case

GOOD = [
    ("add", "a", 1, None), ("add", "abcdefgh", 99, 0), ("add", "z", 99, 99), ("add", "z", 1, 1),
    # A default above the greatest value is one of a change that cannot be.
    ("add", "a", 1, 2), ("add", "a", 3, 1000),
    ("drop", "a"), ("drop", "abcdefgh"),
    ("rename", "a", "b"), ("rename", "a", "a"), ("rename", "a", "abcdefgh"),
    ("default", "a", None), ("default", "a", 0), ("default", "a", 99), ("default", "a", 100), ("default", "a", 10 ** 9),
    ("greatest", "a", 1, "cut"), ("greatest", "a", 99, "none"), ("greatest", "a", 50, "refuse"),
    ("fill", "a", 0), ("fill", "a", 1), ("fill", "a", 99), ("fill", "a", 100), ("fill", "a", 10 ** 9),
    ("add", "add", 2, 0), ("drop", "drop"), ("fill", "fill", 0), ("rename", "missing", "none"),
]
NO_NAMES = [None, 0, True, "", "A", "abcdefghi", "a1", "\u00e4", b"a", ("a",), ["a"], {}]
NO_GREATEST = [None, 0, -1, 100, True, False, "1", [1], (1,)]
NO_VALUES = [True, False, -1, "0", "missing", [0], (0,), {}]
NO_FILLS = NO_VALUES + [None]
NO_WAYS = [None, 0, True, "", "Cut", "cuts", "refused", "drop", b"cut", ["cut"], ("cut",), Alike()]
OTHER_WORDS = ["", "Add", "ADD", "added", "remove", "way", "cut", "name", None, 0, True, b"add", ["add"], ("add",), {}, Alike()]


def wrong_changes():
    """Tuples that are no changes, by each of their parts and by their length."""
    found = [(), ("a",)]
    for change in GOOD:
        found = found + [change[:-1], change + (0,), change + (None,), change + ("a",), list(change), (change,)]
        found = found + [(word,) + change[1:] for word in OTHER_WORDS]
        found = found + [(change[0], name) + change[2:] for name in NO_NAMES]
    found = found + [("add", "a", greatest, None) for greatest in NO_GREATEST]
    found = found + [("add", "a", 9, default) for default in NO_VALUES]
    found = found + [("rename", "a", name) for name in NO_NAMES]
    found = found + [("default", "a", value) for value in NO_VALUES]
    found = found + [("greatest", "a", greatest, "cut") for greatest in NO_GREATEST]
    found = found + [("greatest", "a", 1, way) for way in NO_WAYS]
    found = found + [("fill", "a", value) for value in NO_FILLS]
    # Each kind with the parts of another one.
    found = found + [("add", "a", 1, "cut"), ("drop", "a", "b"), ("rename", "a", 1), ("default", "a", "b"),
                     ("greatest", "a", 1, 0), ("fill", "a", "b"), ("greatest", "a", 1), ("add", "a", 1)]
    return [change for change in found if not any(type(change) is tuple and change == good
                                                  and [type(part) for part in change] == [type(part) for part in good]
                                                  for good in GOOD)]


WRONG = wrong_changes()


def parts(columns):
    return [(column.name, column.greatest, column.default, column.number) for column in columns]


def columns_told(*told):
    return [Column(name, greatest, default, number=number) for name, greatest, default, number in told]


class Forms(Case):

    def test_changes(self):
        for change in GOOD:
            self.truth(is_change(change), True, change)

    def test_no_changes(self):
        for change in WRONG + STRANGE + [None, 0, 1, -1, "add", "drop a", ["drop", "a"]]:
            self.truth(is_change(change), False, change)

    def test_other_words_alone(self):
        for word in OTHER_WORDS:
            self.truth(is_change((word, "a")), False, word)

    def test_kind_of(self):
        for change in GOOD:
            self.same(kind_of(change), change[0])
        self.assertEqual({kind_of(change) for change in GOOD}, {"add", "drop", "rename", "default", "greatest", "fill"})


TWO = columns_told(("a", 5, 3, 0), ("b", 9, None, 4))
SIX = columns_told(*[(name, 5, 3, number) for number, name in enumerate("abcdef")])
ONE = columns_told(("a", 5, 3, 0))

CAN_BE = [
    ("add", "c", 1, None), ("add", "c", 1, 1), ("add", "c", 99, 99), ("add", "c", 7, 0),
    ("drop", "a"), ("drop", "b"), ("rename", "a", "c"), ("rename", "b", "z"),
    ("default", "a", None), ("default", "a", 0), ("default", "a", 3), ("default", "a", 5), ("default", "b", 9),
    ("fill", "a", 0), ("fill", "a", 5), ("fill", "b", 9),
    ("greatest", "a", 5, "cut"), ("greatest", "a", 5, "none"), ("greatest", "a", 5, "refuse"),
    ("greatest", "a", 99, "cut"), ("greatest", "a", 99, "none"), ("greatest", "a", 99, "refuse"),
    ("greatest", "a", 1, "cut"), ("greatest", "a", 1, "none"), ("greatest", "a", 3, "refuse"),
    ("greatest", "a", 4, "refuse"), ("greatest", "b", 1, "refuse"), ("greatest", "b", 1, "cut"),
]

CANNOT_BE = [
    # (columns, change, word): the word alone, and where a later one applies, too.
    (TWO, ("drop", "c"), "unknown"), (TWO, ("rename", "c", "d"), "unknown"), (TWO, ("default", "c", 0), "unknown"),
    (TWO, ("greatest", "c", 1, "refuse"), "unknown"), (TWO, ("fill", "c", 0), "unknown"),
    (TWO, ("rename", "c", "a"), "unknown"), (TWO, ("rename", "c", "c"), "unknown"),
    (ONE, ("drop", "b"), "unknown"), (TWO, ("default", "c", 1000), "unknown"), (TWO, ("fill", "c", 1000), "unknown"),
    (TWO, ("add", "a", 5, 3), "alive"), (TWO, ("add", "b", 1, None), "alive"),
    (TWO, ("rename", "a", "b"), "alive"), (TWO, ("rename", "b", "a"), "alive"), (TWO, ("rename", "a", "a"), "alive"),
    (ONE, ("rename", "a", "a"), "alive"), (SIX, ("rename", "a", "f"), "alive"),
    (SIX, ("add", "a", 5, 3), "alive"), (TWO, ("add", "a", 1, 2), "alive"), (SIX, ("add", "f", 1, 2), "alive"),
    (SIX, ("add", "g", 5, 3), "many"), (SIX, ("add", "g", 1, None), "many"), (SIX, ("add", "g", 1, 2), "many"),
    (ONE, ("drop", "a"), "only"),
    (TWO, ("add", "c", 1, 2), "above"), (TWO, ("add", "c", 99, 100), "above"), (ONE, ("add", "b", 3, 4), "above"),
    (TWO, ("default", "a", 6), "above"), (TWO, ("default", "b", 10), "above"), (ONE, ("default", "a", 1000), "above"),
    (TWO, ("fill", "a", 6), "above"), (TWO, ("fill", "b", 10), "above"), (ONE, ("fill", "a", 1000), "above"),
    (TWO, ("greatest", "a", 2, "refuse"), "default"), (TWO, ("greatest", "a", 1, "refuse"), "default"),
    (ONE, ("greatest", "a", 2, "refuse"), "default"),
]


class Words(Case):

    def test_what_can_be(self):
        for change in CAN_BE:
            self.assertIsNone(why_not(TWO, change), change)
        for change in [("drop", "a"), ("rename", "a", "g"), ("fill", "f", 5), ("greatest", "f", 3, "refuse")]:
            self.assertIsNone(why_not(SIX, change), change)
        self.assertIsNone(why_not(SIX[:5], ("add", "g", 5, 3)))
        self.assertIsNone(why_not(ONE, ("rename", "a", "b")))

    def test_what_cannot_be(self):
        for columns, change, word in CANNOT_BE:
            self.same(why_not(columns, change), word)
            self.fails(CannotBe, word, changed_columns, columns, change, 9)

    def test_row_is_never_told(self):
        for greatest in range(1, 12):
            for way in ["cut", "none", "refuse"]:
                for columns in [TWO, ONE, SIX]:
                    self.assertIn(why_not(columns, ("greatest", "a", greatest, way)), [None, "default"])
        # A default of None bars nothing, whatever rows may have.
        self.assertIsNone(why_not(TWO, ("greatest", "b", 1, "refuse")))

    def test_names_are_looked_up_as_they_are(self):
        self.same(why_not(TWO, ("drop", "aa")), "unknown")
        self.assertIsNone(why_not(TWO, ("add", "aa", 1, 0)))

    def test_columns_may_be_a_tuple(self):
        self.assertIsNone(why_not(tuple(TWO), ("drop", "a")))
        self.assertEqual(parts(changed_columns(tuple(TWO), ("drop", "a"), 5)), parts(TWO[1:]))
        self.assertIs(type(changed_columns(tuple(TWO), ("add", "c", 1, 0), 5)), list)

    def test_no_change(self):
        for change in WRONG + STRANGE + [None, 3]:
            self.fails(BadChange, change, why_not, TWO, change)
            self.fails(BadChange, change, changed_columns, TWO, change, 9)


class ChangedColumns(Case):

    def behind(self, change, wanted, columns=TWO, number=7):
        ahead = parts(columns)
        handed = list(columns)
        found = changed_columns(handed, change, number)
        self.assertIs(type(found), list)
        self.assertIsNot(found, handed)
        self.assertEqual(parts(found), wanted, change)
        self.assertEqual(found, columns_told(*wanted), change)
        # What was handed in is as it was, also when the result is spoilt.
        found.clear()
        self.assertEqual(parts(handed), ahead)

    def test_add(self):
        both = [("a", 5, 3, 0), ("b", 9, None, 4)]
        self.behind(("add", "c", 2, 1), both + [("c", 2, 1, 7)])
        self.behind(("add", "c", 99, None), both + [("c", 99, None, 5)], number=5)
        self.behind(("add", "aa", 1, 0), both + [("aa", 1, 0, 100)], number=100)
        self.behind(("add", "c", 2, 2), both + [("c", 2, 2, 0)], number=0)

    def test_drop(self):
        self.behind(("drop", "a"), [("b", 9, None, 4)])
        self.behind(("drop", "b"), [("a", 5, 3, 0)])
        self.behind(("drop", "c"), [(name, 5, 3, number) for number, name in enumerate("abcdef") if name != "c"], SIX)

    def test_rename(self):
        self.behind(("rename", "a", "c"), [("c", 5, 3, 0), ("b", 9, None, 4)])
        self.behind(("rename", "b", "zz"), [("a", 5, 3, 0), ("zz", 9, None, 4)])

    def test_default(self):
        self.behind(("default", "a", None), [("a", 5, None, 0), ("b", 9, None, 4)])
        self.behind(("default", "a", 5), [("a", 5, 5, 0), ("b", 9, None, 4)])
        self.behind(("default", "b", 0), [("a", 5, 3, 0), ("b", 9, 0, 4)])
        self.behind(("default", "a", 3), [("a", 5, 3, 0), ("b", 9, None, 4)])

    def test_fill(self):
        self.behind(("fill", "a", 5), [("a", 5, 3, 0), ("b", 9, None, 4)])
        self.behind(("fill", "b", 0), [("a", 5, 3, 0), ("b", 9, None, 4)])

    def greatest(self, greatest, way, default):
        self.behind(("greatest", "a", greatest, way), [("a", greatest, default, 0), ("b", 9, None, 4)])

    def test_greatest_below_the_default(self):
        self.greatest(2, "cut", 2)
        self.greatest(1, "cut", 1)
        self.greatest(2, "none", None)
        self.greatest(1, "none", None)
        self.fails(CannotBe, "default", changed_columns, TWO, ("greatest", "a", 2, "refuse"), 7)

    def test_greatest_from_the_default_on(self):
        for way in ["cut", "none", "refuse"]:
            for greatest in [3, 4, 5, 6, 99]:
                self.greatest(greatest, way, 3)

    def test_greatest_without_a_default(self):
        for way in ["cut", "none", "refuse"]:
            for greatest in [1, 8, 9, 10, 99]:
                self.behind(("greatest", "b", greatest, way), [("a", 5, 3, 0), ("b", greatest, None, 4)])

    def test_no_change_ahead_of_one_that_cannot_be(self):
        self.fails(BadChange, ("drop", "A"), changed_columns, ONE, ("drop", "A"), 7)
        self.fails(BadChange, ("add", "a", 0, 5), changed_columns, SIX, ("add", "a", 0, 5), 7)
        self.fails(BadChange, ("fill", "c", None), changed_columns, TWO, ("fill", "c", None), 7)


class ChangedValue(Case):

    def test_greatest(self):
        column = Column("a", 5, 3)
        for value, cut, none in [(None, None, None), (0, 0, 0), (2, 2, 2), (3, 3, 3), (4, 3, None), (5, 3, None)]:
            self.same(changed_value(column, ("greatest", "a", 3, "cut"), value), cut)
            self.same(changed_value(column, ("greatest", "a", 3, "none"), value), none)
        for value in [None, 0, 2, 3]:
            self.same(changed_value(column, ("greatest", "a", 3, "refuse"), value), value)
        for value in [4, 5]:
            self.same(changed_value(column, ("greatest", "a", 3, "refuse"), value), "missing")

    def test_greatest_to_the_same_or_more(self):
        column = Column("a", 5, 3)
        for way in ["cut", "none", "refuse"]:
            for greatest in [5, 6, 99]:
                for value in [None, 0, 3, 5]:
                    self.same(changed_value(column, ("greatest", "a", greatest, way), value), value)

    def test_fill(self):
        column = Column("a", 5, 3)
        self.same(changed_value(column, ("fill", "a", 2), None), 2)
        self.same(changed_value(column, ("fill", "a", 0), None), 0)
        for value in [0, 1, 2, 3, 5]:
            self.same(changed_value(column, ("fill", "a", 2), value), value)

    def test_other_kinds(self):
        column = Column("a", 5, 3)
        for change in [("rename", "a", "b"), ("default", "a", 1), ("default", "a", None), ("drop", "a"),
                       ("add", "b", 1, 0)]:
            for value in [None, 0, 1, 5]:
                self.same(changed_value(column, change, value), value)

    def test_changes_of_another_column(self):
        column = Column("a", 5, 3)
        for change in [("greatest", "b", 1, "cut"), ("greatest", "b", 1, "none"), ("greatest", "b", 1, "refuse"),
                       ("fill", "b", 1), ("default", "b", 1), ("drop", "b"), ("rename", "b", "c")]:
            for value in [None, 0, 1, 5]:
                self.same(changed_value(column, change, value), value)


class ByName(Case):

    def test_by_name(self):
        self.truth(is_change(value=("drop", "a")), True)
        self.same(kind_of(change=("drop", "a")), "drop")
        self.same(why_not(change=("drop", "a"), columns=ONE), "only")
        found = changed_columns(number=3, change=("add", "b", 2, 1), columns=ONE)
        self.assertEqual(parts(found), [("a", 5, 3, 0), ("b", 2, 1, 3)])
        self.same(changed_value(value=5, change=("greatest", "a", 1, "cut"), column=ONE[0]), 1)


if __name__ == "__main__":
    unittest.main()
