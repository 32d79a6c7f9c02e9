"""Changes: their form, what hinders them, and what they do to columns and values."""

from editionrows.columns import Column, column_named
from editionrows.errors import BadChange, CannotBe
from editionrows.values import MISSING, is_greatest, is_name, is_value, is_whole, is_within, is_word

WAYS = ("cut", "none", "refuse")
MOST_COLUMNS = 6


def is_change(value):
    """Whether any value is a change by its form."""
    if not isinstance(value, tuple) or len(value) < 2:
        return False
    return isinstance(value[0], str) and is_name(value[1]) and has_parts(value[0], value[2:])


def has_parts(kind, parts):
    """Whether some parts are those that a change of a kind has behind its first name."""
    if kind == "drop":
        return len(parts) == 0
    if kind in ("rename", "default", "fill"):
        return len(parts) == 1 and is_single_part(kind, parts[0])
    if kind == "add":
        return len(parts) == 2 and is_greatest(parts[0]) and is_value(parts[1])
    if kind == "greatest":
        return len(parts) == 2 and is_greatest(parts[0]) and is_way(parts[1])
    return False


def is_single_part(kind, part):
    """Whether any value is the part behind the name in a rename, a default or a fill."""
    if kind == "rename":
        return is_name(part)
    if kind == "default":
        return is_value(part)
    return is_whole(part) and part >= 0


def is_way(value):
    """Whether any value is a way in which a greatest value is changed."""
    return is_word(value, WAYS)


def kind_of(change):
    """The first word of a change."""
    return change[0]


def why_not(columns, change):
    """The word by which a change cannot be done to some columns, or None."""
    if not is_change(change):
        raise BadChange(change)
    return hindrance(columns, change)


def hindrance(columns, change):
    """As why_not, for what is known to be a change."""
    kind = change[0]
    column = column_named(columns, change[1])
    if kind == "add":
        return add_hindrance(columns, column, change)
    if column is None:
        return "unknown"
    if kind == "rename" and column_named(columns, change[2]) is not None:
        return "alive"
    if kind == "drop" and len(columns) == 1:
        return "only"
    if kind in ("default", "fill") and not is_within(change[2], column.greatest):
        return "above"
    if kind == "greatest" and changed_value(column, change, column.default) == MISSING:
        return "default"
    return None


def add_hindrance(columns, namesake, change):
    """The word by which a column cannot be added, or None; the namesake is what has its name."""
    if namesake is not None:
        return "alive"
    if len(columns) >= MOST_COLUMNS:
        return "many"
    if not is_within(change[3], change[2]):
        return "above"
    return None


def changed_columns(columns, change, number):
    """The Columns behind a change, an added one with a number."""
    word = why_not(columns, change)
    if word is not None:
        raise CannotBe(word)
    return columns_behind(columns, change, number)


def columns_behind(columns, change, number):
    """As changed_columns, for a change that can be done."""
    kind = change[0]
    name = change[1]
    if kind == "add":
        return list(columns) + [Column(name, change[2], change[3], number=number)]
    if kind == "drop":
        return [column for column in columns if column.name != name]
    return [changed_column(column, change) if column.name == name else column for column in columns]


def changed_column(column, change):
    """What a change of a Column that does not drop it makes of it."""
    kind = change[0]
    if kind == "rename":
        return column.changed("name", change[2])
    if kind == "default":
        return column.changed("default", change[2])
    if kind == "greatest":
        # The default goes the way that the values go.
        default = changed_value(column, change, column.default)
        return Column(column.name, change[2], default, number=column.number)
    return column


def changed_value(column, change, value):
    """What a value of a Column becomes by a change, or MISSING if the change is barred by it."""
    if change[1] != column.name:
        return value
    if change[0] == "fill" and value is None:
        return change[2]
    if change[0] == "greatest" and value is not None and value > change[2]:
        return value_above(change)
    return value


def value_above(change):
    """What a value above the new greatest one becomes, or MISSING."""
    if change[3] == "cut":
        return change[2]
    if change[3] == "none":
        return None
    return MISSING
