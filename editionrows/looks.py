"""Looks: whether a change can be done to all rows that are there, as far as it is known without them."""

from editionrows.changes import hindrance, is_change, kind_of
from editionrows.columns import column_named
from editionrows.errors import BadChange, BadEdition, BadPart
from editionrows.histories import History, is_edition
from editionrows.maps import is_dead, map_of
from editionrows.values import is_list, is_within


def check_looked(history, change, editions):
    """Raises what looks and barring raise."""
    if not isinstance(history, History):
        raise BadPart("history")
    if not is_change(change):
        raise BadChange(change)
    if not is_list(editions):
        raise BadEdition(None)
    seen = []
    for edition in editions:
        if not is_edition(history, edition) or is_dead(history, edition) or edition in seen:
            raise BadEdition(edition)
        seen.append(edition)


def needs_rows(change, columns):
    """Whether a change of some Columns is a refuse to less than the greatest value, not below the default."""
    if not is_change(change):
        raise BadChange(change)
    column = column_named(columns, change[1])
    if column is None or kind_of(change) != "greatest" or change[3] != "refuse":
        return False
    return change[2] < column.greatest and is_within(column.default, change[2])


def arguments_above(history, change, edition):
    """The arguments of an edition that lead above in a refuse that needs rows, ascending."""
    found = map_of(history, edition, history.column(change[1]).number)
    return [argument for argument in found.arguments() if not is_within(found(argument), change[2])]


def are_all_above(history, change, edition):
    """Whether all arguments of an edition lead above in a refuse that needs rows."""
    above = arguments_above(history, change, edition)
    return len(above) == len(map_of(history, edition, history.column(change[1]).number))


def looks(history, change, editions):
    """Whether a change at the present is `let`, `refused` or has to `look`, where some editions have rows."""
    check_looked(history, change, editions)
    columns = history.columns()
    if hindrance(columns, change) is not None:
        return "refused"
    if not needs_rows(change, columns):
        return "let"
    if any([are_all_above(history, change, edition) for edition in editions]):
        return "refused"
    if any([len(arguments_above(history, change, edition)) > 0 for edition in editions]):
        return "look"
    return "let"


def barring(history, change, editions):
    """The first tuple (edition, argument) that leads above in a refuse that can be done to the columns, or None."""
    check_looked(history, change, editions)
    if not needs_rows(change, history.columns()):
        return None
    for edition in editions:
        above = arguments_above(history, change, edition)
        if len(above) > 0:
            return (edition, above[0])
    return None
