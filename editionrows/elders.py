"""Elder readers: who knows the columns of an edition, and reads later rows as they are stored."""

from editionrows.covers import check_edition, live_ones
from editionrows.errors import BadEdition, BadRow
from editionrows.maps import arguments_of
from editionrows.stored import barred_at, is_stored, row_with, stored_value


def check_reader(history, reader, edition):
    """Raises BadEdition for what is no reader's edition, then for what is none, or is ahead of it."""
    check_edition(history, reader)
    check_edition(history, edition)
    if edition < reader:
        raise BadEdition(edition)


def elder_read(history, reader, row):
    """What a reader of an edition reads of a stored row, by the names that it knows, or None if it cannot read it."""
    check_edition(history, reader)
    if not is_stored(history, row) or row[0] < reader:
        raise BadRow(row)
    known = history.columns(reader)
    read = {column.name: stored_value(row, column.number) for column in known}
    # What is missing is a value of no column.
    return read if all([read[column.name] in column for column in known]) else None


def can_be_there(history, row):
    """Whether a stored row is not barred up to the present."""
    return barred_at(history, row) is None


def is_dead(history, edition):
    """Whether no row of an edition can be there."""
    return len(live_ones(history, [edition])) == 0


def unread_row(history, reader, edition):
    """A row of an edition that can be there and that a reader cannot read, or None."""
    check_reader(history, reader, edition)
    if is_dead(history, edition):
        return None
    for column in history.columns(reader):
        if history.by_number(column.number, edition=edition) is None:
            return row_with(history, edition, {})
        for value in arguments_of(history, edition, column.number):
            if value not in column:
                return row_with(history, edition, {column.number: value})
    return None


def can_read(history, reader, edition):
    """Whether a reader can read all rows of an edition that can be there."""
    return unread_row(history, reader, edition) is None


def readers_of(history, edition):
    """The editions, up to this one, whose readers can read it, ascending."""
    check_edition(history, edition)
    return [reader for reader in range(edition + 1) if can_read(history, reader, edition)]


def editions_for(history, reader):
    """The editions, from the reader's on, that it can read, ascending."""
    check_edition(history, reader)
    return [edition for edition in range(reader, len(history) + 1) if can_read(history, reader, edition)]
