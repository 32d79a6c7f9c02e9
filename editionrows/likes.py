"""Alike histories: whether all rows, there and to come, are read alike by two histories."""

from editionrows.columns import column_named
from editionrows.errors import BadPart
from editionrows.histories import History
from editionrows.maps import arguments_of, is_dead, map_of
from editionrows.stored import barred_at, followed, is_stored, row_with
from editionrows.values import is_word


def check_both(one, other):
    """Raises BadPart for what are no two histories with the same columns at the beginning."""
    if not isinstance(one, History):
        raise BadPart("one")
    if not isinstance(other, History) or other.first_columns() != one.first_columns():
        raise BadPart("other")


def is_column_unlike(one, other, name):
    """Whether any value is a name that one history has alone, or with another greatest value or default."""
    first = column_named(one.columns(), name)
    second = column_named(other.columns(), name)
    if first is None or second is None:
        return first is not None or second is not None
    return first.greatest != second.greatest or first.default != second.default


def is_row_unlike(one, other, row):
    """Whether a stored row can be there in one history alone."""
    return (barred_at(one, row) is None) != (barred_at(other, row) is None)


def is_read_unlike(one, other, row, name):
    """Whether a stored row can be there in both histories and has unlike values of a name, which is any value."""
    first = followed(one, row)
    second = followed(other, row)
    if first is None or second is None or not isinstance(name, str):
        return False
    return name in first and name in second and first[name] != second[name]


def unlike_name(one, other):
    """The first name whose columns are unlike at the present, or None."""
    for column in one.columns() + other.columns():
        if is_column_unlike(one, other, column.name):
            return column.name
    return None


def unlike_row(one, other):
    """A row of edition 0 that can be there in one history alone, or None."""
    if is_dead(one, 0) or is_dead(other, 0):
        return None if is_dead(one, 0) == is_dead(other, 0) else row_with(one, 0, {})
    for column in one.first_columns():
        first = arguments_of(one, 0, column.number)
        second = arguments_of(other, 0, column.number)
        if first != second:
            apart = [value for value in column.all_values() if (value in first) != (value in second)]
            return row_with(one, 0, {column.number: apart[0]})
    return None


def unlike_arguments(one, other, name):
    """A dict from numbers to arguments of edition 0 that lead to unlike values of a name in both, or None."""
    number = one.column(name).number
    partner = other.column(name).number
    first = map_of(one, 0, number)
    second = map_of(other, 0, partner)
    if number == partner and first == second:
        return None
    for argument in first.arguments():
        for beside in [argument] if number == partner else second.arguments():
            if first(argument) != second(beside):
                return {number: argument, partner: beside}
    return None


def unlike_read(one, other):
    """A tuple (row, name) of a row of edition 0 with unlike values, where the same rows can be there, or None."""
    if is_dead(one, 0):
        return None
    for column in one.columns():
        told = unlike_arguments(one, other, column.name)
        if told is not None:
            return (row_with(one, 0, told), column.name)
    return None


def unlike(one, other):
    """None if two histories are alike, otherwise a tuple that shows that they are not."""
    check_both(one, other)
    name = unlike_name(one, other)
    if name is not None:
        return ("column", name)
    row = unlike_row(one, other)
    if row is not None:
        return ("row", row)
    read = unlike_read(one, other)
    return None if read is None else ("read",) + read


def are_alike(one, other):
    """Whether two histories are alike."""
    return unlike(one, other) is None


def is_first_row(history, value):
    """Whether any value is a stored row of edition 0."""
    return is_stored(history, value) and value[0] == 0


def is_unlike(one, other, value):
    """Whether any value is a tuple that shows that two histories are not alike."""
    check_both(one, other)
    if not isinstance(value, tuple):
        return False
    if len(value) == 2 and is_word(value[0], ("column",)):
        return is_column_unlike(one, other, value[1])
    if len(value) == 2 and is_word(value[0], ("row",)):
        return is_first_row(one, value[1]) and is_row_unlike(one, other, value[1])
    if len(value) == 3 and is_word(value[0], ("read",)):
        return is_first_row(one, value[1]) and is_read_unlike(one, other, value[1], value[2])
    return False
