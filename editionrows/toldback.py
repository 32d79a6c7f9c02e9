"""Told back: changes of which some numbers are not known, and the histories that explain the rows that were seen."""

from editionrows.changes import columns_behind, hindrance, is_change
from editionrows.errors import BadChange, BadPart, BadRow, TooMany
from editionrows.histories import MOST_CHANGES, History, is_edition
from editionrows.stored import followed, is_stored
from editionrows.values import is_list, is_value, is_whole, is_word

BLANK = "?"
MOST_NUMBER = 99
MOST_BLANKS = 3
MOST_WAYS = 20000


def is_blank(value):
    """Whether any value is a blank."""
    return is_word(value, (BLANK,))


def is_blank_change(value):
    """Whether any value is a change by its form, some of whose integers may be blank."""
    if not isinstance(value, tuple):
        return False
    # By the form of a change 1 can stand for each of its integers, and for nothing else.
    return is_change(value[:2] + tuple([1 if is_blank(part) else part for part in value[2:]]))


def check_changes(changes):
    """Raises BadChange for what is no list, then for the first that is no blank change."""
    if not is_list(changes):
        raise BadChange(None)
    for index, change in enumerate(changes):
        if not is_blank_change(change):
            raise BadChange(index)


def blanks_in(changes):
    """How many blanks a list of blank changes has."""
    return sum([len([part for part in change if is_blank(part)]) for change in changes])


def is_number(value, most):
    """Whether any value is an integer from 0 to a greatest one."""
    return is_whole(value) and 0 <= value <= most


def filled_in(changes, numbers):
    """The list of the changes with numbers in the places of the blanks, in their order."""
    check_changes(changes)
    if not is_list(numbers) or len(numbers) != blanks_in(changes):
        raise BadPart("numbers")
    if not all([is_number(number, MOST_NUMBER) for number in numbers]):
        raise BadPart("numbers")
    filled = []
    at = 0
    for change in changes:
        parts = []
        for part in change:
            parts.append(numbers[at] if is_blank(part) else part)
            if is_blank(part):
                at += 1
        filled.append(tuple(parts))
    return filled


def check_sightings(sightings):
    """Raises BadRow for what is no list, then for the first that is no sighting by its form."""
    if not is_list(sightings):
        raise BadRow(None)
    for index, sighting in enumerate(sightings):
        if not is_sighting(sighting):
            raise BadRow(index)


def is_sighting(value):
    """Whether any value is a tuple of any row, an integer and a dict."""
    return isinstance(value, tuple) and len(value) == 3 and is_whole(value[1]) and isinstance(value[2], dict)


def read_at(history, row, edition):
    """What a row has at an edition, by names, or None if it cannot be followed there; both are any values."""
    if not is_stored(history, row) or not is_edition(history, edition) or edition < row[0]:
        return None
    return followed(history, row, edition=edition)


def is_explained(history, sighting):
    """Whether a history explains a sighting."""
    row, edition, told = sighting
    read = read_at(history, row, edition)
    if read is None or len(told) != len(read):
        return False
    return all([name in told and is_value(told[name]) and told[name] == value for name, value in read.items()])


def are_explained(history, sightings):
    """As explains, for what is known to be a list of sightings."""
    return all([is_explained(history, sighting) for sighting in sightings])


def explains(history, sightings):
    """Whether a history explains all of some sightings."""
    check_sightings(sightings)
    return are_explained(history, sightings)


def count_of_ways(blanks, most):
    """How many ways there are to fill so many blanks with numbers up to a greatest one."""
    count = 1
    for _ in range(blanks):
        count = count * (most + 1)
    return count


def check_question(columns, changes, sightings, most):
    """Raises what fillings raises."""
    if not is_number(most, MOST_NUMBER):
        raise BadPart("most")
    History(columns)
    check_changes(changes)
    check_sightings(sightings)
    if len(changes) > MOST_CHANGES:
        raise TooMany(MOST_CHANGES)
    if blanks_in(changes) > MOST_BLANKS:
        raise TooMany(MOST_BLANKS)
    if count_of_ways(blanks_in(changes), most) > MOST_WAYS:
        raise TooMany(MOST_WAYS)


def choices_of(change, most):
    """The changes that a blank change can be, with numbers up to a greatest one, by the numbers put in."""
    choices = [()]
    for part in change:
        parts = list(range(most + 1)) if is_blank(part) else [part]
        choices = [choice + (one,) for choice in choices for one in parts]
    return [choice for choice in choices if is_change(choice)]


def ways_to_fill(columns, changes, most):
    """The lists of changes that can be done to some Columns, by the numbers put in."""
    ways = [([], columns)]
    for change in changes:
        choices = choices_of(change, most)
        # What can be done goes by the names alone, so an added column may have any number.
        ways = [(done + [choice], columns_behind(there, choice, 0)) for done, there in ways for choice in choices
                if hindrance(there, choice) is None]
    return [done for done, _ in ways]


def fillings(columns, changes, sightings, *, most=9):
    """The Histories that have the changes with numbers in the blanks, can be, and explain the sightings."""
    check_question(columns, changes, sightings, most)
    found = []
    for done in ways_to_fill(columns, changes, most):
        history = History(columns, done)
        if are_explained(history, sightings):
            found.append(history)
    return found


def sure_reads(columns, changes, sightings, row, edition, *, most=9):
    """The names, with their values, for which all fillings by which a row can be followed tell the same."""
    reads = [read_at(history, row, edition) for history in fillings(columns, changes, sightings, most=most)]
    told = [read for read in reads if read is not None]
    if len(told) == 0:
        return {}
    return {name: value for name, value in told[0].items() if all([read[name] == value for read in told])}
