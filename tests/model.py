"""The definitions once more, without the package: what columns, rows and values become. The tests measure it by this.

Columns are lists of tuples (name, number, greatest, default); histories are such columns and a list of changes.
"""

FIRSTS = [
    [("a", 0, 2, 0)],
    [("a", 0, 2, None), ("b", 1, 1, 1)],
]

CHANGES = [
    ("add", "b", 2, 2), ("add", "c", 1, None), ("drop", "a"), ("drop", "b"), ("rename", "a", "b"), ("rename", "b", "a"),
    ("default", "a", 1), ("default", "b", None), ("greatest", "a", 1, "cut"), ("greatest", "a", 1, "none"),
    ("greatest", "a", 1, "refuse"), ("greatest", "a", 2, "cut"), ("greatest", "b", 1, "refuse"),
    ("greatest", "b", 1, "none"), ("fill", "a", 1), ("fill", "a", 2), ("fill", "b", 2),
]


def column_behind(column, change):
    """A column behind a change that has its name, or None if it cannot be, or "gone"."""
    name, number, greatest, default = column
    kind = change[0]
    if kind == "drop":
        return "gone"
    if kind == "rename":
        return (change[2], number, greatest, default)
    if kind == "default":
        return (name, number, greatest, change[2]) if change[2] is None or change[2] <= greatest else None
    if kind == "fill":
        return column if change[2] <= greatest else None
    if default is not None and default > change[2]:
        if change[3] == "refuse":
            return None
        default = change[2] if change[3] == "cut" else None
    return (name, number, change[2], default)


def columns_behind(columns, change, number):
    """The columns behind a change, or None if it cannot be done."""
    names = [column[0] for column in columns]
    if change[0] == "add":
        if change[1] in names or len(columns) == 6 or (change[3] is not None and change[3] > change[2]):
            return None
        return columns + [(change[1], number, change[2], change[3])]
    if change[1] not in names or (change[0] == "rename" and change[2] in names):
        return None
    made = [column_behind(column, change) if column[0] == change[1] else column for column in columns]
    if None in made or made == ["gone"]:
        return None
    return [column for column in made if column != "gone"]


def editions(first, changes):
    """The columns at each edition, or None if a change cannot be done."""
    found = [first]
    number = len(first)
    for change in changes:
        found.append(columns_behind(found[-1], change, number))
        if found[-1] is None:
            return None
        number += change[0] == "add"
    return found


def value_behind(greatest, change, value):
    """What a value of a column becomes by a change that has its name, or "bar"."""
    if change[0] == "fill" and value is None:
        return change[2]
    if change[0] == "greatest" and change[2] < greatest and value is not None and value > change[2]:
        return {"cut": change[2], "none": None, "refuse": "bar"}[change[3]]
    return value


def row_behind(columns, change, row):
    """A row, a dict from names to values, behind a change that can be done to the columns, or None."""
    row = dict(row)
    if change[0] == "add":
        row[change[1]] = change[3]
        return row
    greatest = [column[2] for column in columns if column[0] == change[1]][0]
    row[change[1]] = value_behind(greatest, change, row[change[1]])
    if row[change[1]] == "bar":
        return None
    if change[0] == "drop":
        del row[change[1]]
    if change[0] == "rename":
        row[change[2]] = row.pop(change[1])
    return row


def trail(there, changes, edition, row):
    """What a row of an edition is at this and each later one, as far as it goes."""
    found = [row]
    for at in range(edition, len(changes)):
        row = row_behind(there[at], changes[at], row)
        if row is None:
            break
        found.append(row)
    return found


def lead(there, changes, number, edition):
    """What the arguments of an edition lead to while the column with a number is there."""
    born = min(at for at, columns in enumerate(there) if number in [column[1] for column in columns])
    start = max(born, edition)
    column = [column for column in there[start] if column[1] == number][0]
    starts = {"missing": column[3]} if born > edition else {value: value for value in values_of(column[2])}
    found = {}
    for argument, value in starts.items():
        for at in range(start, len(changes)):
            here = [one for one in there[at] if one[1] == number]
            if here and here[0][0] == changes[at][1]:
                value = value_behind(here[0][2], changes[at], value)
            if value == "bar":
                break
        if value != "bar":
            found[argument] = value
    return found


def values_of(greatest):
    return [None] + list(range(greatest + 1))


def rows_of(columns):
    """All rows of some columns, as dicts from names to values, the last column going round first."""
    found = [{}]
    for name, _, greatest, _ in columns:
        found = [dict(row, **{name: value}) for row in found for value in values_of(greatest)]
    return found


def small_histories(most, step=1):
    """Tuples (first columns, changes, columns at each edition) of all that have so many changes, or each so many-th."""
    for first in FIRSTS:
        told = [[]]
        for _ in range(most):
            told = [changes + [change] for changes in told for change in CHANGES
                    if editions(first, changes + [change]) is not None]
        for changes in told[::step]:
            yield first, changes, editions(first, changes)
