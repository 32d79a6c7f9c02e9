"""Stored rows, and what becomes of them where they are followed."""

from editionrows.errors import BadEdition, BadRow, TooMany
from editionrows.histories import edition_of, is_edition
from editionrows.plain import changed_row, told_row
from editionrows.values import MISSING, is_whole

MOST_ROWS = 20000


def is_stored(history, value):
    """Whether any value is a stored row of a history."""
    if not isinstance(value, tuple) or len(value) != 2:
        return False
    edition, values = value
    if not is_edition(history, edition) or not isinstance(values, tuple):
        return False
    columns = history.columns(edition)
    if len(values) != len(columns):
        return False
    return all([is_entry(column, entry) for column, entry in zip(columns, values)])


def is_entry(column, value):
    """Whether any value is what a stored row has of a column: its number and one of its values."""
    if not isinstance(value, tuple) or len(value) != 2:
        return False
    return is_whole(value[0]) and value[0] == column.number and value[1] in column


def store(history, told, *, edition=None):
    """The stored row that a writer at an edition writes."""
    at = edition_of(history, edition)
    columns = history.columns(at)
    row = told_row(columns, told)
    return (at, tuple([(column.number, row[column.name]) for column in columns]))


def stored_value(row, number):
    """The value that a stored row has under a number, or MISSING."""
    for given, value in row[1]:
        if given == number:
            return value
    return MISSING


def row_with(history, edition, told):
    """The stored row of an edition with some values by their numbers, and 0, which no change bars, everywhere else."""
    return (edition, tuple([(column.number, told.get(column.number, 0)) for column in history.columns(edition)]))


def trail(history, row, edition):
    """What a plain table has of a stored row at each edition from the row's to this one, or to a bar."""
    columns = history.columns(row[0])
    kept = {column.name: entry[1] for column, entry in zip(columns, row[1])}
    found = [kept]
    for at in range(row[0], edition):
        kept = changed_row(history.columns(at), history[at], kept)
        if kept is None:
            return found
        found.append(kept)
    return found


def followed(history, row, *, edition=None):
    """The values by names of a stored row followed to an edition, or None if it is barred."""
    if not is_stored(history, row):
        raise BadRow(row)
    at = edition_of(history, edition)
    if at < row[0]:
        raise BadEdition(edition)
    found = trail(history, row, at)
    if len(found) <= at - row[0]:
        return None
    return found[-1]


def barred_at(history, row):
    """The first edition to which a stored row cannot be followed, or None."""
    if not is_stored(history, row):
        raise BadRow(row)
    behind = row[0] + len(trail(history, row, len(history)))
    if behind > len(history):
        return None
    return behind


def rows_count(columns):
    """How many stored rows an edition with some columns has."""
    count = 1
    for column in columns:
        count = count * len(column.all_values())
    return count


def all_stored(history, edition):
    """A generator of all stored rows of an edition, the value of the last number going round first."""
    at = edition_of(history, edition)
    columns = history.columns(at)
    if rows_count(columns) > MOST_ROWS:
        raise TooMany(MOST_ROWS)
    told = [()]
    for column in columns:
        told = [values + ((column.number, value),) for values in told for value in column.all_values()]
    for values in told:
        yield (at, values)
