"""Indexes by stored values: whether they are in the order of what is read, and alike unique."""

from editionrows.covers import check_edition, live_ones
from editionrows.errors import BadColumn, BadValue
from editionrows.maps import arguments_of, is_dead, map_of
from editionrows.stored import followed, stored_value
from editionrows.touches import check_rows
from editionrows.values import in_order, is_value, rank


def check_number(history, number):
    """Raises BadColumn for what is no number of a column at present."""
    if history.by_number(number) is None:
        raise BadColumn(number)


def stored_values(history, number, edition):
    """The stored values that rows of an edition can have under a number and that are not barred, ascending."""
    check_number(history, number)
    check_edition(history, edition)
    if is_dead(history, edition):
        return []
    return arguments_of(history, edition, number)


def stored_entries(history, number, editions):
    """Tuples (edition, stored, read) of all stored values that rows of some editions can have under a number."""
    check_number(history, number)
    found = []
    for edition in live_ones(history, editions):
        led = map_of(history, edition, number)
        found.extend([(edition, stored, led(stored)) for stored in led.arguments()])
    return found


def disorder(entries):
    """Two of some entries, the first stored not behind the second and read behind it, or None."""
    most = None
    for value in in_order([entry[1] for entry in entries]):
        equals = [entry for entry in entries if entry[1] == value]
        # Equal ones stand in any order, so all of them are among those that may stand ahead of each.
        for entry in equals:
            if most is None or rank(entry[2]) > rank(most[2]):
                most = entry
        for entry in equals:
            if rank(entry[2]) < rank(most[2]):
                return (most, entry)
    return None


def unlikeness(entries):
    """Two of some entries that are equal as stored and unlike as read, or the other way round, or None."""
    by_stored = {}
    by_read = {}
    for entry in entries:
        same_stored = by_stored.setdefault(entry[1], entry)
        same_read = by_read.setdefault(entry[2], entry)
        if same_stored[2] != entry[2]:
            return (same_stored, entry)
        if same_read[1] != entry[1]:
            return (same_read, entry)
    return None


def stored_pair(entries):
    """Two entries without what is read of them, or None."""
    return None if entries is None else (entries[0][:2], entries[1][:2])


def order_break(history, number, editions):
    """Two stored values of which the first is not behind the second and read behind it, or None."""
    return stored_pair(disorder(stored_entries(history, number, editions)))


def is_in_order(history, number, editions):
    """Whether an index on a number is in order for some editions."""
    return order_break(history, number, editions) is None


def unique_break(history, number, editions):
    """Two stored values that are equal and read unlike, or unlike and read equal, or None."""
    return stored_pair(unlikeness(stored_entries(history, number, editions)))


def is_alike_unique(history, number, editions):
    """Whether an index on a number is alike unique for some editions."""
    return unique_break(history, number, editions) is None


class StoredIndex:
    """The rows that are there, in the order of what they have stored under a number."""

    def __init__(self, history, number, rows):
        check_number(history, number)
        check_rows(history, rows)
        name = history.by_number(number).name
        stored = [stored_value(row, number) for row in rows]
        read = [followed(history, row)[name] for row in rows]
        self._entries = [index for value in in_order(stored) for index, one in enumerate(stored) if one == value]
        self._stored = [stored[index] for index in self._entries]
        self._reads = [read[index] for index in self._entries]

    def __len__(self):
        return len(self._entries)

    def entries(self):
        """The indexes of the rows, by stored values, then by themselves."""
        return list(self._entries)

    def reads(self):
        """The values read, in the order of the entries."""
        return list(self._reads)

    def is_sorted(self):
        """Whether the values read come in order, for all orders of equal stored ones."""
        return disorder(list(zip(self._entries, self._stored, self._reads))) is None

    def unique_by_stored(self):
        """Whether no two rows have equal stored values."""
        return len(in_order(self._stored)) == len(self._stored)

    def unique_by_read(self):
        """Whether no two rows are read as equal values."""
        return len(in_order(self._reads)) == len(self._reads)

    def find(self, value):
        """The indexes of the rows that are read as a value, ascending."""
        if not is_value(value):
            raise BadValue(value)
        found = [index for index, read in zip(self._entries, self._reads) if read == value]
        return sorted([int(index) for index in found])
