"""Touches: which rows must be written anew so that no more than so many lots are remembered."""

from editionrows.covers import MOST_COVERED, check_editions, companions, least_cover, live_ones, parted
from editionrows.errors import BadPart, BadRow, TooMany
from editionrows.stored import barred_at, followed, is_stored, store
from editionrows.values import is_list, is_whole


def check_rows(history, rows):
    """Raises BadRow for what is no list of stored rows that are not barred."""
    if not is_list(rows):
        raise BadRow(None)
    for index, row in enumerate(rows):
        if not is_there(history, row):
            raise BadRow(index)


def is_there(history, value):
    """Whether any value is a stored row that is not barred."""
    return is_stored(history, value) and barred_at(history, value) is None


def touched(history, row):
    """The stored row written anew at the present."""
    if not is_there(history, row):
        raise BadRow(row)
    return store(history, followed(history, row))


def editions_used(rows, open_ones):
    """The editions that have a row or are open, some perhaps twice."""
    return [row[0] for row in rows] + list(open_ones)


def check_remembered(history, rows, open_ones):
    """Raises what is raised for rows and open editions."""
    check_rows(history, rows)
    check_editions(history, open_ones)


def remembered(history, rows, open_ones=()):
    """How many lots a least cover of the editions has that have a row or are open."""
    check_remembered(history, rows, open_ones)
    return len(least_cover(history, editions_used(rows, open_ones)))


def planned_editions(history, rows, most, open_ones):
    """The editions that are remembered ahead of a touch, ascending; raises for what is no question of so many lots."""
    check_remembered(history, rows, open_ones)
    if not is_whole(most) or most < 0:
        raise BadPart("most")
    live = live_ones(history, editions_used(rows, open_ones))
    if len(live) > MOST_COVERED:
        raise TooMany(MOST_COVERED)
    return live


def is_enough(together, editions, most):
    """Whether some editions are parted into at most so many lots."""
    return parted(together, editions, [], most) is not None


def choices_of(editions):
    """All lists of some of the editions, in their order."""
    choices = [[]]
    for edition in editions:
        choices = choices + [choice + [edition] for choice in choices]
    return choices


def emptied_editions(history, rows, most, open_ones):
    """The editions all of whose rows are touched if as few rows as possible are, or None if it cannot be."""
    ahead = planned_editions(history, rows, most, open_ones)
    present = len(history)
    together = companions(history, live_ones(history, ahead + [present]))
    if is_enough(together, ahead, most):
        return []
    # To touch some rows of an edition alone, or those of an open one, takes no edition away.
    counts = {edition: len([row for row in rows if row[0] == edition]) for edition in ahead}
    best = None
    least = len(rows) + 1
    for choice in choices_of([edition for edition in ahead if edition != present and edition not in open_ones]):
        count = sum([counts[edition] for edition in choice])
        left = [edition for edition in together if edition not in choice]
        if count < least and is_enough(together, left, most):
            best = choice
            least = count
    return best


def touch_plan(history, rows, most, *, open_ones=()):
    """The indexes of as few rows as possible that must be touched, ascending, or None if it cannot be."""
    emptied = emptied_editions(history, rows, most, open_ones)
    if emptied is None:
        return None
    return [index for index, row in enumerate(rows) if row[0] in emptied]


def least_touches(history, rows, most, *, open_ones=()):
    """The least number of rows that must be touched, or None if it cannot be."""
    plan = touch_plan(history, rows, most, open_ones=open_ones)
    return None if plan is None else len(plan)


def is_touch_plan(history, rows, most, value, *, open_ones=()):
    """Whether any value is an ascending list of indexes of rows behind whose touch so many lots are enough."""
    planned_editions(history, rows, most, open_ones)
    if not isinstance(value, list) or not are_indexes(history, rows, value):
        return False
    left = [row for index, row in enumerate(rows) if index not in value]
    present = [len(history)] if len(value) > 0 else []
    behind = live_ones(history, editions_used(left, open_ones) + present)
    return is_enough(companions(history, behind), behind, most)


def are_indexes(history, rows, listed):
    """Whether a list has ascending indexes of rows that are not of the present edition."""
    ahead = -1
    for index in listed:
        if not is_whole(index) or not ahead < index < len(rows) or rows[index][0] == len(history):
            return False
        ahead = index
    return True
