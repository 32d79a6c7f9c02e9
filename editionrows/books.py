"""Books: how rows are stored and read, and what a book reads of a row in a history."""

from editionrows.changes import is_change, kind_of
from editionrows.errors import BadChange, BadPart
from editionrows.histories import History, edition_of
from editionrows.maps import changes_of
from editionrows.stored import followed
from editionrows.values import is_list, is_word

MISSINGS = ("kept", "present", "none")
NUMBERINGS = ("fresh", "again")
MAPPINGS = ("order", "last")
TOUCHES = ("add", "drop", "default", "greatest", "fill")
PARTS = ("missing", "numbering", "mapping", "touching")


def are_touches(value):
    """Whether any value is a list of unlike kinds that can touch."""
    if not is_list(value):
        return False
    seen = []
    for kind in value:
        if not is_word(kind, TOUCHES) or kind in seen:
            return False
        seen.append(kind)
    return True


class Book:
    """How rows are stored and read."""

    def __init__(self, *, missing="kept", numbering="fresh", mapping="order", touching=()):
        if not is_word(missing, MISSINGS):
            raise BadPart("missing")
        if not is_word(numbering, NUMBERINGS):
            raise BadPart("numbering")
        if not is_word(mapping, MAPPINGS):
            raise BadPart("mapping")
        if not are_touches(touching):
            raise BadPart("touching")
        self.missing = missing
        self.numbering = numbering
        self.mapping = mapping
        self.touching = tuple([kind for kind in TOUCHES if kind in touching])

    def __eq__(self, other):
        return (isinstance(other, Book) and self.missing == other.missing and self.numbering == other.numbering
                and self.mapping == other.mapping and self.touching == other.touching)

    def __le__(self, other):
        if not isinstance(other, Book):
            return NotImplemented
        return (self.missing == other.missing and self.numbering == other.numbering
                and self.mapping == other.mapping and all([kind in other.touching for kind in self.touching]))

    def changed(self, part, value):
        """The Book with another value for one of its parts."""
        if not is_word(part, PARTS):
            raise BadPart(part)
        parts = {"missing": self.missing, "numbering": self.numbering, "mapping": self.mapping,
                 "touching": self.touching}
        parts[part] = value
        return Book(missing=parts["missing"], numbering=parts["numbering"], mapping=parts["mapping"],
                    touching=parts["touching"])

    def touches(self, change):
        """Whether all rows are stored anew behind a change."""
        if not is_change(change):
            raise BadChange(change)
        return kind_of(change) in self.touching


def check_book(book):
    """Raises BadPart for any value that is no Book."""
    if not isinstance(book, Book):
        raise BadPart("book")


def check_parts(book, history):
    """Raises BadPart for what is no Book, then for what is no History."""
    check_book(book)
    if not isinstance(history, History):
        raise BadPart("history")


def given_numbers(book, history):
    """For each number that a history gives, in order, the number that a book gives instead."""
    if book.numbering == "fresh":
        return list(range(history.numbers()))
    following = len(history.first_columns())
    given = list(range(following))
    free = None
    for at, change in enumerate(history.changes_told()):
        if kind_of(change) == "drop":
            free = given[history.column(change[1], edition=at).number]
        elif kind_of(change) == "add" and free is not None:
            given.append(free)
            free = None
        elif kind_of(change) == "add":
            given.append(following)
            following += 1
    return given


def numbers_of(book, history, edition=None):
    """The numbers that a book gives to the columns at an edition, by their names."""
    check_parts(book, history)
    at = edition_of(history, edition)
    given = given_numbers(book, history)
    return {column.name: given[column.number] for column in history.columns(at)}


def stored_at(book, history, row):
    """The edition at which a book has stored a stored row last: the row's own, or one behind a touch."""
    at = row[0]
    for edition in range(row[0], len(history)):
        if book.touches(history[edition]):
            at = edition + 1
    return at


def kept_row(book, history, row):
    """What is stored of a row at the present: an edition and values by the book's numbers; None if it is barred."""
    check_parts(book, history)
    if followed(history, row) is None:
        return None
    at = stored_at(book, history, row)
    values = followed(history, row, edition=at)
    return (at, {number: values[name] for name, number in numbers_of(book, history, at).items()})


def is_less(greatest, step):
    """Whether a step makes a greatest value less, and what is stored above it with it."""
    return step[0] == "greatest" and step[1] < greatest and step[2] != "refuse"


def ordered_value(greatest, step, value):
    """What a stored value becomes by a step: a change, without its name, of a column with a greatest value."""
    if step[0] == "fill" and value is None:
        return step[1]
    if is_less(greatest, step) and value is not None and value > step[1]:
        return step[1] if step[2] == "cut" else None
    return value


def latest_signs(greatest, step, signs):
    """The way of the latest change to a less greatest value, and the value of the latest fill, behind a step."""
    if step[0] == "fill":
        return (signs[0], step[1])
    if is_less(greatest, step):
        return (step[2], signs[1])
    return signs


def last_value(greatest, signs, value):
    """What is read of a stored value by the present greatest one and the latest signs alone."""
    if value is not None and value > greatest:
        value = None if signs[0] == "none" else greatest
    # Without a fill its sign is None, which is then what is read.
    return signs[1] if value is None else value


def value_read(book, column, steps, value):
    """What a book reads at a Column of a value, by tuples (greatest value, step) of the changes behind it."""
    if book.mapping == "order":
        for greatest, step in steps:
            value = ordered_value(greatest, step, value)
        return value
    signs = ("", None)
    for greatest, step in steps:
        signs = latest_signs(greatest, step, signs)
    return last_value(column.greatest, signs, value)


def column_read(book, history, column, kept, number):
    """What a book reads of what is kept of a row at a present Column, to which it gives a number."""
    edition, values = kept
    born = history.born(column.number)
    if number in values:
        start = values[number]
    elif book.missing == "kept":
        start = history.by_number(column.number, edition=born).default
    else:
        return column.default if book.missing == "present" else None
    # What was stored for a dropped column goes through the changes of the new one alone.
    behind = changes_of(history, column.number, max(born, int(edition)))
    steps = [(there.greatest, (kind_of(change),) + change[2:]) for there, change in behind]
    return value_read(book, column, steps, start)


def book_reads(book, history, row):
    """What a book reads of a stored row at the present, by names, or None if it is barred."""
    kept = kept_row(book, history, row)
    if kept is None:
        return None
    numbers = numbers_of(book, history)
    return {column.name: column_read(book, history, column, kept, numbers[column.name])
            for column in history.columns()}
