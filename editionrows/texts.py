"""Texts of changes, of histories and of what a writer tells."""

from editionrows.changes import is_change
from editionrows.columns import Column
from editionrows.errors import BadText
from editionrows.histories import History
from editionrows.values import is_name

FIGURES = "0123456789"
NOTHING = "-"
VALUE_FIGURES = 2


def is_number_text(text, most):
    """Whether a text is at most so many figures of a number, without a leading zero."""
    if not 1 <= len(text) <= most or not all([figure in FIGURES for figure in text]):
        return False
    return text == "0" or text[0] != "0"


def is_value_text(text):
    """Whether a text writes a value."""
    return text == NOTHING or is_number_text(text, VALUE_FIGURES)


def write_value(value):
    """The text of a value, or of a word."""
    return NOTHING if value is None else str(value)


def value_of(text):
    """The value that is known to be written by a text."""
    return None if text == NOTHING else int(text)


def write_change(change):
    """The text of a change."""
    return " ".join([write_value(part) for part in change])


def write_history(history):
    """The text of a history."""
    rows = [f"column {column.name} {column.greatest} {write_value(column.default)}"
            for column in history.first_columns()]
    return "\n".join(rows + [write_change(change) for change in history.changes_told()])


def write_told(told):
    """The text of what a writer tells."""
    return " ".join([f"{name} {write_value(value)}" for name, value in told.items()])


def change_of(text):
    """The change that any value writes, or None."""
    if not isinstance(text, str):
        return None
    words = text.split(" ")
    # Neither a name nor a way is written as a value is, so the form of a change tells which words are values.
    change = tuple(words[:2] + [value_of(word) if is_value_text(word) else word for word in words[2:]])
    return change if is_change(change) else None


def column_of(row):
    """The name, the greatest value and the default of a column that a row of a text writes, or None."""
    if not row.startswith("column "):
        return None
    added = change_of("add " + row[len("column "):])
    return None if added is None else added[1:]


def told_of(text):
    """The dict that any value writes as what a writer tells, or None."""
    if not isinstance(text, str):
        return None
    words = text.split(" ") if len(text) > 0 else []
    told = {}
    for at in range(0, len(words), 2):
        entry = words[at:at + 2]
        if len(entry) < 2 or not is_name(entry[0]) or entry[0] in told or not is_value_text(entry[1]):
            return None
        told[entry[0]] = value_of(entry[1])
    return told


def read_change(text):
    """The change that a text writes."""
    change = change_of(text)
    if change is None:
        raise BadText(0)
    return change


def read_history(text):
    """The History that a text writes."""
    if not isinstance(text, str):
        raise BadText(0)
    columns = []
    changes = []
    for index, row in enumerate(text.split("\n")):
        column = column_of(row)
        change = change_of(row)
        if column is not None and len(changes) == 0:
            columns.append(column)
        elif change is not None:
            changes.append(change)
        else:
            raise BadText(index)
    return History([Column(name, greatest, default) for name, greatest, default in columns], changes)


def read_told(text):
    """The dict that a text writes as what a writer tells."""
    told = told_of(text)
    if told is None:
        raise BadText(0)
    return told
