"""Plain tables, in which each change is done to all rows at once."""

from editionrows.changes import changed_value, kind_of, why_not
from editionrows.columns import column_named
from editionrows.errors import BadPart, BadRow, BadValue, CannotBe, UnknownName
from editionrows.histories import History
from editionrows.values import is_list, is_missing


def is_row(columns, value):
    """Whether any value is a dict with a value of each column under its name, and nothing else."""
    if not isinstance(value, dict) or len(value) != len(columns):
        return False
    return all([column.name in value and value[column.name] in column for column in columns])


def told_row(columns, told):
    """The row that a writer tells, with the defaults of the columns in the place of what is left out."""
    if not isinstance(told, dict):
        raise BadRow(told)
    for name, value in told.items():
        found = column_named(columns, name)
        if found is None:
            raise UnknownName(name)
        if value not in found:
            raise BadValue(name)
    return {column.name: told.get(column.name, column.default) for column in columns}


def changed_row(columns, change, row):
    """What a change that can be done to the columns makes of a row, or None if it is barred by the row."""
    kind = kind_of(change)
    changed = {}
    for column in columns:
        value = changed_value(column, change, row[column.name])
        if is_missing(value):
            return None
        if column.name != change[1] or kind not in ("drop", "rename"):
            changed[column.name] = value
        elif kind == "rename":
            changed[change[2]] = value
    if kind == "add":
        changed[change[1]] = change[3]
    return changed


def row_in_order(columns, row):
    """The row anew, in the order of the columns."""
    return {column.name: row[column.name] for column in columns}


class Plain:
    """A history at its present edition, and rows with a value for each column."""

    def __init__(self, history, rows=()):
        if not isinstance(history, History):
            raise BadPart("history")
        if not is_list(rows):
            raise BadRow(None)
        columns = history.columns()
        for index, value in enumerate(rows):
            if not is_row(columns, value):
                raise BadRow(index)
        self.history = history
        self._rows = [row_in_order(columns, row) for row in rows]

    def __eq__(self, other):
        return isinstance(other, Plain) and self.history == other.history and self._rows == other._rows

    def __len__(self):
        return len(self._rows)

    def rows(self):
        """The rows, as dicts from names to values."""
        return [dict(row) for row in self._rows]

    def written(self, told):
        """The Plain with one row more, as a writer tells it."""
        row = told_row(self.history.columns(), told)
        return Plain(self.history, self._rows + [row])

    def changed(self, change):
        """The Plain behind a change."""
        word = self.why_not(change)
        if word is not None:
            raise CannotBe(word)
        columns = self.history.columns()
        return Plain(self.history.then(change), [changed_row(columns, change, row) for row in self._rows])

    def why_not(self, change):
        """The word by which a change cannot be done here, or None."""
        columns = self.history.columns()
        word = why_not(columns, change)
        if word is None and any([changed_row(columns, change, row) is None for row in self._rows]):
            return "row"
        return word
