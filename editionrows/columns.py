"""Columns, and how one of a list of them is found."""

from editionrows.errors import BadPart
from editionrows.values import is_greatest, is_name, is_whole, is_within, is_word, values_to

PARTS = ("name", "greatest", "default", "number")


class Column:
    """A name, a number, a greatest value and a default."""

    def __init__(self, name, greatest, default=None, *, number=0):
        if not is_name(name):
            raise BadPart("name")
        if not is_greatest(greatest):
            raise BadPart("greatest")
        if not is_within(default, greatest):
            raise BadPart("default")
        if not is_whole(number) or number < 0:
            raise BadPart("number")
        self.name = name
        self.greatest = greatest
        self.default = default
        self.number = number

    def __eq__(self, other):
        return (isinstance(other, Column) and self.name == other.name and self.greatest == other.greatest
                and self.default == other.default and self.number == other.number)

    def __contains__(self, x):
        return is_within(x, self.greatest)

    def all_values(self):
        """The values that can stand in the column."""
        return values_to(self.greatest)

    def changed(self, part, value):
        """The Column with another value for one of its parts."""
        if not is_word(part, PARTS):
            raise BadPart(part)
        parts = {"name": self.name, "greatest": self.greatest, "default": self.default, "number": self.number}
        parts[part] = value
        return Column(parts["name"], parts["greatest"], parts["default"], number=parts["number"])


def column_named(columns, name):
    """The Column of a list that has a name, or None; the name is any value."""
    if not isinstance(name, str):
        return None
    for column in columns:
        if column.name == name:
            return column
    return None


def column_numbered(columns, number):
    """The Column of a list that has a number, or None; the number is any value."""
    if not is_whole(number):
        return None
    for column in columns:
        if column.number == number:
            return column
    return None
