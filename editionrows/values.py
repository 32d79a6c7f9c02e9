"""Values, and the kinds that everything else is made of."""

MISSING = "missing"

LETTERS = "abcdefghijklmnopqrstuvwxyz"
LONGEST_NAME = 8
MOST_GREATEST = 99


def is_whole(value):
    """Whether any value is an integer: True and False are none, though Python counts them so."""
    return isinstance(value, int) and not isinstance(value, bool)


def is_list(value):
    """Whether any value can stand where a list is asked for."""
    return isinstance(value, (list, tuple))


def is_word(value, words):
    """Whether any value is one of some words."""
    return isinstance(value, str) and value in words


def is_name(value):
    """Whether any value is a name: one to eight letters from a to z."""
    if not isinstance(value, str) or not 1 <= len(value) <= LONGEST_NAME:
        return False
    return all([letter in LETTERS for letter in value])


def is_greatest(value):
    """Whether any value is a greatest value of a column."""
    return is_whole(value) and 1 <= value <= MOST_GREATEST


def is_value(value):
    """Whether any value is None or an integer of at least 0."""
    return value is None or (is_whole(value) and value >= 0)


def is_within(value, greatest):
    """Whether any value is None or an integer from 0 to a greatest one."""
    return is_value(value) and (value is None or value <= greatest)


def is_missing(value):
    """Whether any value is MISSING."""
    return is_word(value, (MISSING,))


def values_to(greatest):
    """None and the integers from 0 to a greatest one."""
    return [None] + list(range(greatest + 1))


def rank(value):
    """An integer that puts MISSING ahead of None ahead of the integers of at least 0."""
    if is_missing(value):
        return -2
    if value is None:
        return -1
    return value


def in_order(values):
    """MISSING, None and integers, ascending, each once."""
    found = []
    if any([is_missing(value) for value in values]):
        found.append(MISSING)
    if any([value is None for value in values]):
        found.append(None)
    for number in sorted([int(value) for value in values if is_whole(value)]):
        if len(found) == 0 or found[-1] != number:
            found.append(number)
    return found
