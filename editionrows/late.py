"""Late writers: rows written now as at an elder edition, and whether they are read as they were meant."""

from editionrows.covers import check_edition, live_ones
from editionrows.maps import is_dead, map_of
from editionrows.stored import followed, store
from editionrows.values import MISSING


def late_row(history, edition, told):
    """The stored row that a late writer of an edition writes."""
    check_edition(history, edition)
    return store(history, told, edition=edition)


def meant(history, edition, told):
    """What a late writer means, by the names at the present, or None if the row is refused."""
    read = followed(history, late_row(history, edition, told))
    if read is None:
        return None
    numbers = [history.column(name, edition=edition).number for name in told]
    return {column.name: read[column.name] if column.number in numbers else column.default
            for column in history.columns()}


def is_unlike(history, edition, column):
    """Whether a present Column left untold at an edition that is not dead is read as another than its default."""
    elder = history.by_number(column.number, edition=edition)
    stored = MISSING if elder is None else elder.default
    led = map_of(history, edition, column.number)
    # A default that is barred cannot be left untold: the row would be refused.
    return stored in led and led(stored) != column.default


def unlike_columns(history, edition):
    """The present Columns that some late writing of an edition leaves unlike to what is meant."""
    if is_dead(history, edition):
        return []
    return [column for column in history.columns() if is_unlike(history, edition, column)]


def unlike_names(history, edition):
    """The names of the present columns that are followed to what is not meant, by some telling that is not refused."""
    check_edition(history, edition)
    return [column.name for column in unlike_columns(history, edition)]


def is_late_right(history, edition):
    """Whether a late writer of an edition is right."""
    return len(unlike_names(history, edition)) == 0


def late_error(history, edition):
    """A tuple (told, name) that shows that a late writer of an edition is not right, or None."""
    check_edition(history, edition)
    columns = unlike_columns(history, edition)
    if len(columns) == 0:
        return None
    # No change bars 0, so with it any default that is barred can be gone round.
    told = {elder.name: 0 for elder in history.columns(edition) if elder.number != columns[0].number}
    return (told, columns[0].name)


def fence(history, edition):
    """The first edition, not ahead of this one, at which a writer of this one would not be right, or None."""
    check_edition(history, edition)
    for later in range(edition, len(history) + 1):
        if not is_late_right(history.up_to(later), edition):
            return later
    return None


def right_editions(history):
    """The editions whose late writers are right, ascending."""
    return [edition for edition in range(len(history) + 1) if is_late_right(history, edition)]


def live_editions(history):
    """The editions that are not dead, ascending."""
    return live_ones(history, list(range(len(history) + 1)))
