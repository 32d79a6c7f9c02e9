"""Maps: where the changes of a column lead what a stored row has of it."""

from editionrows.changes import changed_value
from editionrows.errors import BadColumn, BadPart, BadRow, BadValue
from editionrows.histories import edition_of
from editionrows.stored import is_stored, stored_value
from editionrows.values import MISSING, in_order, is_missing, is_value


def is_argument(value):
    """Whether any value is an argument: a value or MISSING."""
    return is_value(value) or is_missing(value)


class Map:
    """What leads from arguments to values."""

    def __init__(self, pairs):
        if not isinstance(pairs, dict):
            raise BadValue(None)
        for argument, value in pairs.items():
            if not is_argument(argument) or not is_value(value):
                raise BadValue(argument)
        self._pairs = dict(pairs)

    def __call__(self, argument):
        return self._led(argument)

    def __getitem__(self, at):
        return self._led(at)

    def __contains__(self, x):
        return is_argument(x) and x in self._pairs

    def __len__(self):
        return len(self._pairs)

    def __iter__(self):
        raise TypeError("a map cannot be iterated")

    def __eq__(self, other):
        return isinstance(other, Map) and self._pairs == other._pairs

    def __le__(self, other):
        if not isinstance(other, Map):
            return NotImplemented
        return all([argument in other._pairs and other._pairs[argument] == value
                    for argument, value in self._pairs.items()])

    def __or__(self, other):
        if not isinstance(other, Map) or not self.agrees(other):
            raise BadPart("other")
        return Map({**self._pairs, **other._pairs})

    def _led(self, argument):
        if not is_argument(argument) or argument not in self._pairs:
            raise BadValue(argument)
        return self._pairs[argument]

    def arguments(self):
        """The arguments, ascending."""
        return in_order(list(self._pairs))

    def agrees(self, other):
        """Whether this map and another one lead what both have to the same."""
        return all([value == other._pairs[argument] for argument, value in self._pairs.items()
                    if argument in other._pairs])

    def then(self, other):
        """The Map of all that this one leads to what another one has, to where that leads."""
        if not isinstance(other, Map):
            raise BadPart("other")
        return Map({argument: other._pairs[value] for argument, value in self._pairs.items()
                    if value in other._pairs})


def changes_of(history, number, edition):
    """The changes behind an edition of a column that is there, while it is, each with the Column ahead of it."""
    found = []
    for at, change in enumerate(history.behind(edition), start=edition):
        column = history.by_number(number, edition=at)
        if column is None:
            return found
        if change[1] == column.name:
            found.append((column, change))
    return found


def led_value(steps, value):
    """What a value becomes by changes of its column, or MISSING if it is barred."""
    led = value
    for column, change in steps:
        led = changed_value(column, change, led)
        if is_missing(led):
            return MISSING
    return led


def is_gone(history, number, edition):
    """Whether the column with a number was dropped not behind an edition; raises BadColumn for no number."""
    dropped = history.dropped(number)
    return dropped is not None and dropped <= edition


def led_pairs(history, number, edition):
    """The arguments of an edition in a column that is not gone there, ascending, each with where it leads."""
    born = history.born(number)
    if born > edition:
        starts = {MISSING: history.by_number(number, edition=born).default}
        steps = changes_of(history, number, born)
    else:
        starts = {value: value for value in history.by_number(number, edition=edition).all_values()}
        steps = changes_of(history, number, edition)
    pairs = {}
    for argument, value in starts.items():
        led = led_value(steps, value)
        if not is_missing(led):
            pairs[argument] = led
    return pairs


def arguments_of(history, edition, number):
    """The arguments of an edition in a column, by its number, ascending."""
    at = edition_of(history, edition)
    if is_gone(history, number, at):
        raise BadColumn(number)
    return list(led_pairs(history, number, at))


def is_dead(history, edition):
    """Whether no row of an edition can be there."""
    at = edition_of(history, edition)
    later = [number for number in range(history.numbers()) if history.born(number) > at]
    return any([len(led_pairs(history, number, at)) == 0 for number in later])


def map_of(history, edition, number):
    """The Map of a column at the present, by its number, for an edition."""
    at = edition_of(history, edition)
    if history.by_number(number) is None:
        raise BadColumn(number)
    return Map(led_pairs(history, number, at))


def maps_of(history, edition):
    """The Maps of all columns at the present for an edition, by their numbers."""
    at = edition_of(history, edition)
    return {column.number: map_of(history, at, column.number) for column in history.columns()}


def read_row(history, row):
    """What a stored row has at the present by names, read by the maps, or None if it is barred."""
    if not is_stored(history, row):
        raise BadRow(row)
    edition = row[0]
    read = {}
    for number in range(history.numbers()):
        if not is_gone(history, number, edition):
            pairs = led_pairs(history, number, edition)
            argument = stored_value(row, number)
            if argument not in pairs:
                return None
            read[number] = pairs[argument]
    return {column.name: read[column.number] for column in history.columns()}
