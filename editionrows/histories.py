"""Histories: columns at a beginning, and the changes behind them."""

from editionrows.changes import MOST_COLUMNS, columns_behind, hindrance, is_change, kind_of, why_not
from editionrows.columns import Column, column_named, column_numbered
from editionrows.errors import BadChange, BadColumn, BadEdition, CannotBe, NothingToUndo, TooMany, UnknownName
from editionrows.values import is_whole, is_list

MOST_CHANGES = 40


def is_edition(history, value):
    """Whether any value is an edition of a history; None is none here."""
    return is_whole(value) and 0 <= value <= len(history)


def edition_of(history, edition):
    """The edition that is asked for, where None stands for the present."""
    if edition is None:
        return len(history)
    if not is_edition(history, edition):
        raise BadEdition(edition)
    return edition


def numbered_columns(columns):
    """The Columns of a beginning, with the numbers of their places."""
    if not is_list(columns) or len(columns) == 0:
        raise BadColumn(None)
    names = []
    for index, column in enumerate(columns):
        if not isinstance(column, Column) or column.name in names:
            raise BadColumn(index)
        names.append(column.name)
    if len(columns) > MOST_COLUMNS:
        raise TooMany(MOST_COLUMNS)
    return [column.changed("number", index) for index, column in enumerate(columns)]


def columns_of_editions(first, changes):
    """The Columns at each edition, from the first ones on."""
    if not is_list(changes):
        raise BadChange(None)
    editions = [first]
    number = len(first)
    for index, change in enumerate(changes):
        columns = editions[-1]
        if not is_change(change) or hindrance(columns, change) is not None:
            raise BadChange(index)
        editions.append(columns_behind(columns, change, number))
        if kind_of(change) == "add":
            number += 1
    if len(changes) > MOST_CHANGES:
        raise TooMany(MOST_CHANGES)
    return editions


def births(editions):
    """For each number, the edition at which a column with it is first."""
    born = []
    for edition, columns in enumerate(editions):
        for column in columns:
            # Numbers are given ascending, so one that is new is the next one.
            if column.number == len(born):
                born.append(edition)
    return born


def drops(editions, many):
    """For each of so many numbers, the edition at which its column is no longer there, or None."""
    dropped = [None] * many
    for edition in range(1, len(editions)):
        for column in editions[edition - 1]:
            if column_numbered(editions[edition], column.number) is None:
                dropped[column.number] = edition
    return dropped


class History:
    """Columns, and changes that can be done to them one behind the other."""

    def __init__(self, columns, changes=()):
        self._editions = columns_of_editions(numbered_columns(columns), changes)
        self._changes = list(changes)
        self._births = births(self._editions)
        self._drops = drops(self._editions, len(self._births))

    def __eq__(self, other):
        return (isinstance(other, History) and self._editions[0] == other._editions[0]
                and self._changes == other._changes)

    def __len__(self):
        return len(self._changes)

    def __getitem__(self, at):
        if not is_whole(at) or not 0 <= at < len(self._changes):
            raise BadEdition(at)
        return self._changes[at]

    def __iter__(self):
        raise TypeError("a history cannot be iterated")

    def first_columns(self):
        """The Columns at the beginning."""
        return list(self._editions[0])

    def columns(self, edition=None):
        """The Columns at an edition."""
        return list(self._editions[edition_of(self, edition)])

    def changes_told(self):
        """The changes, in their order."""
        return list(self._changes)

    def column(self, name, *, edition=None):
        """The Column of a name at an edition."""
        found = column_named(self._editions[edition_of(self, edition)], name)
        if found is None:
            raise UnknownName(name)
        return found

    def by_number(self, number, *, edition=None):
        """The Column with a number at an edition, or None."""
        return column_numbered(self._editions[edition_of(self, edition)], number)

    def numbers(self):
        """How many numbers were given."""
        return len(self._births)

    def born(self, number):
        """The edition at which a column with a number is first."""
        if not is_given(self, number):
            raise BadColumn(number)
        return self._births[number]

    def dropped(self, number):
        """The edition at which the column with a number is no longer there, or None."""
        if not is_given(self, number):
            raise BadColumn(number)
        return self._drops[number]

    def then(self, change):
        """The History with one change more."""
        word = why_not(self._editions[-1], change)
        if word is not None:
            raise CannotBe(word)
        # What is left to be wrong is their number, and the class itself raises for that.
        return History(self._editions[0], self._changes + [change])

    def back(self):
        """The History without the last change."""
        if len(self._changes) == 0:
            raise NothingToUndo("change")
        return History(self._editions[0], self._changes[:-1])

    def up_to(self, edition):
        """The History with the first changes alone, so many."""
        if not is_edition(self, edition):
            raise BadEdition(edition)
        return History(self._editions[0], self._changes[:edition])

    def behind(self, edition):
        """The changes behind an edition."""
        if not is_edition(self, edition):
            raise BadEdition(edition)
        return self._changes[edition:]


def is_given(history, value):
    """Whether any value is a number that was given to a column."""
    return is_whole(value) and 0 <= value < history.numbers()
