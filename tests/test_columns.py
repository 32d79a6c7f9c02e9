import unittest

from editionrows.columns import Column
from editionrows.errors import BadPart
from tests.helpers import STRANGE, Case

NO_NAMES = STRANGE + [None, 0, 1, -1, "ninelette", "abcdefghi", "Abc", "aB", "a1", "a b", " a", "a ", "a-b", "a_b", "a\n",
                      "\u00e4", "\u00df", "a\u00e9", "\u03b1", ("a",), ["a"]]
NO_GREATEST = STRANGE + [None, 0, -1, 100, 1000, "1", "missing"]
NO_DEFAULTS = STRANGE + [-1, 4, 99, "1", "missing"]
NO_NUMBERS = STRANGE + [None, -1, -2, "0", "missing"]


def parts(column):
    return (column.name, column.greatest, column.default, column.number)


class Columns(Case):

    def test_parts(self):
        self.same(parts(Column("a", 3)), ("a", 3, None, 0))
        self.same(parts(Column("a", 3, 2)), ("a", 3, 2, 0))
        self.same(parts(Column("a", 3, number=7)), ("a", 3, None, 7))
        self.same(parts(Column("a", 3, 0, number=7)), ("a", 3, 0, 7))
        self.same(parts(Column("a", 3, None, number=0)), ("a", 3, None, 0))

    def test_number_by_name_only(self):
        self.assertRaises(TypeError, Column, "a", 3, 0, 1)

    def test_names(self):
        for name in ["a", "z", "ab", "abcdefgh", "zzzzzzzz", "missing", "none", "number"]:
            self.same(Column(name, 1).name, name)
        for name in NO_NAMES:
            self.fails(BadPart, "name", Column, name, 1)

    def test_greatest(self):
        for greatest in [1, 2, 98, 99]:
            self.same(Column("a", greatest).greatest, greatest)
        for greatest in NO_GREATEST:
            self.fails(BadPart, "greatest", Column, "a", greatest)

    def test_default(self):
        for default in [None, 0, 1, 2, 3]:
            self.same(Column("a", 3, default).default, default)
        for default in NO_DEFAULTS:
            self.fails(BadPart, "default", Column, "a", 3, default)
        self.same(Column("a", 99, 99).default, 99)
        self.fails(BadPart, "default", Column, "a", 1, True)
        self.fails(BadPart, "default", Column, "a", 1, 2)

    def test_number(self):
        for number in [0, 1, 5, 99, 100, 10 ** 9]:
            self.same(Column("a", 3, number=number).number, number)
        for number in NO_NUMBERS:
            self.fails(BadPart, "number", Column, "a", 3, number=number)

    def test_first_wrong_part(self):
        self.fails(BadPart, "name", Column, "A", 0, 5, number=-1)
        self.fails(BadPart, "name", Column, "A", 1, 0, number=-1)
        self.fails(BadPart, "name", Column, "A", 1, 5)
        self.fails(BadPart, "greatest", Column, "a", 0, 5, number=-1)
        self.fails(BadPart, "greatest", Column, "a", 100, None, number=True)
        self.fails(BadPart, "greatest", Column, "a", None, "x")
        self.fails(BadPart, "default", Column, "a", 4, 5, number=-1)

    def test_equality(self):
        one = Column("a", 3, 2, number=1)
        self.truth(one == Column("a", 3, 2, number=1), True)
        self.truth(one != Column("a", 3, 2, number=1), False)
        for other in [Column("b", 3, 2, number=1), Column("a", 4, 2, number=1), Column("a", 3, 1, number=1),
                      Column("a", 3, None, number=1), Column("a", 3, 2), Column("a", 3, 2, number=2)]:
            self.truth(one == other, False)
            self.truth(one != other, True)
        for other in STRANGE + [None, ("a", 3, 2, 1), "a"]:
            self.truth(one == other, False)

    def test_contains(self):
        column = Column("a", 3, 2)
        for value in [None, 0, 1, 2, 3]:
            self.truth(value in column, True)
        for value in NO_DEFAULTS:
            self.truth(value in column, False)

    def test_all_values(self):
        self.same(Column("a", 1).all_values(), [None, 0, 1])
        self.same(Column("a", 3, 2, number=4).all_values(), [None, 0, 1, 2, 3])
        column = Column("a", 1)
        column.all_values().clear()
        self.same(column.all_values(), [None, 0, 1])

    def test_changed(self):
        one = Column("a", 3, 2, number=1)
        self.same(parts(one.changed("name", "b")), ("b", 3, 2, 1))
        self.same(parts(one.changed("greatest", 2)), ("a", 2, 2, 1))
        self.same(parts(one.changed("greatest", 99)), ("a", 99, 2, 1))
        self.same(parts(one.changed("default", None)), ("a", 3, None, 1))
        self.same(parts(one.changed("default", 0)), ("a", 3, 0, 1))
        self.same(parts(one.changed("number", 0)), ("a", 3, 2, 0))
        self.same(parts(one), ("a", 3, 2, 1))
        self.assertIs(type(one.changed("name", "b")), Column)

    def test_changed_to_what_does_not_fit(self):
        one = Column("a", 3, 2, number=1)
        self.fails(BadPart, "name", one.changed, "name", "B")
        self.fails(BadPart, "greatest", one.changed, "greatest", 0)
        self.fails(BadPart, "greatest", one.changed, "greatest", True)
        self.fails(BadPart, "default", one.changed, "default", 4)
        self.fails(BadPart, "default", one.changed, "default", True)
        self.fails(BadPart, "number", one.changed, "number", -1)
        self.fails(BadPart, "number", one.changed, "number", None)
        # A lower greatest value leaves the default outside.
        self.fails(BadPart, "default", one.changed, "greatest", 1)

    def test_changed_in_another_part(self):
        one = Column("a", 3, 2, number=1)
        for part in STRANGE + [None, 0, "names", "Name", "values", "way", "_name", ("name",), ["name"]]:
            self.fails(BadPart, part, one.changed, part, "B")

    def test_by_name(self):
        self.same(parts(Column(number=4, default=1, greatest=2, name="b")), ("b", 2, 1, 4))
        self.same(parts(Column("b", default=1, greatest=2)), ("b", 2, 1, 0))
        self.same(parts(Column("b", 2).changed(value=9, part="number")), ("b", 2, None, 9))


if __name__ == "__main__":
    unittest.main()
