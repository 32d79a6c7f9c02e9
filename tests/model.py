"""The definitions once more, without the package: what columns, rows and values become. The tests measure it by this.

Columns are lists of tuples (name, number, greatest, default); histories are such columns and a list of changes.
"""

FIRSTS = [
    [("a", 0, 2, 0)],
    [("a", 0, 2, None), ("b", 1, 1, 1)],
]

CHANGES = [
    ("add", "b", 2, 2), ("add", "c", 1, None), ("drop", "a"), ("drop", "b"), ("rename", "a", "b"), ("rename", "b", "a"),
    ("default", "a", 1), ("default", "b", None), ("greatest", "a", 1, "cut"), ("greatest", "a", 1, "none"),
    ("greatest", "a", 1, "refuse"), ("greatest", "a", 2, "cut"), ("greatest", "b", 1, "refuse"),
    ("greatest", "b", 1, "none"), ("fill", "a", 1), ("fill", "a", 2), ("fill", "b", 2),
]


def column_behind(column, change):
    """A column behind a change that has its name, or None if it cannot be, or "gone"."""
    name, number, greatest, default = column
    kind = change[0]
    if kind == "drop":
        return "gone"
    if kind == "rename":
        return (change[2], number, greatest, default)
    if kind == "default":
        return (name, number, greatest, change[2]) if change[2] is None or change[2] <= greatest else None
    if kind == "fill":
        return column if change[2] <= greatest else None
    if default is not None and default > change[2]:
        if change[3] == "refuse":
            return None
        default = change[2] if change[3] == "cut" else None
    return (name, number, change[2], default)


def columns_behind(columns, change, number):
    """The columns behind a change, or None if it cannot be done."""
    names = [column[0] for column in columns]
    if change[0] == "add":
        if change[1] in names or len(columns) == 6 or (change[3] is not None and change[3] > change[2]):
            return None
        return columns + [(change[1], number, change[2], change[3])]
    if change[1] not in names or (change[0] == "rename" and change[2] in names):
        return None
    made = [column_behind(column, change) if column[0] == change[1] else column for column in columns]
    if None in made or made == ["gone"]:
        return None
    return [column for column in made if column != "gone"]


def editions(first, changes):
    """The columns at each edition, or None if a change cannot be done."""
    found = [first]
    number = len(first)
    for change in changes:
        found.append(columns_behind(found[-1], change, number))
        if found[-1] is None:
            return None
        number += change[0] == "add"
    return found


def value_behind(greatest, change, value):
    """What a value of a column becomes by a change that has its name, or "bar"."""
    if change[0] == "fill" and value is None:
        return change[2]
    if change[0] == "greatest" and change[2] < greatest and value is not None and value > change[2]:
        return {"cut": change[2], "none": None, "refuse": "bar"}[change[3]]
    return value


def row_behind(columns, change, row):
    """A row, a dict from names to values, behind a change that can be done to the columns, or None."""
    row = dict(row)
    if change[0] == "add":
        row[change[1]] = change[3]
        return row
    greatest = [column[2] for column in columns if column[0] == change[1]][0]
    row[change[1]] = value_behind(greatest, change, row[change[1]])
    if row[change[1]] == "bar":
        return None
    if change[0] == "drop":
        del row[change[1]]
    if change[0] == "rename":
        row[change[2]] = row.pop(change[1])
    return row


def trail(there, changes, edition, row):
    """What a row of an edition is at this and each later one, as far as it goes."""
    found = [row]
    for at in range(edition, len(changes)):
        row = row_behind(there[at], changes[at], row)
        if row is None:
            break
        found.append(row)
    return found


def lead(there, changes, number, edition):
    """What the arguments of an edition lead to while the column with a number is there."""
    born = min(at for at, columns in enumerate(there) if number in [column[1] for column in columns])
    start = max(born, edition)
    column = [column for column in there[start] if column[1] == number][0]
    starts = {"missing": column[3]} if born > edition else {value: value for value in values_of(column[2])}
    found = {}
    for argument, value in starts.items():
        for at in range(start, len(changes)):
            here = [one for one in there[at] if one[1] == number]
            if here and here[0][0] == changes[at][1]:
                value = value_behind(here[0][2], changes[at], value)
            if value == "bar":
                break
        if value != "bar":
            found[argument] = value
    return found


def values_of(greatest):
    return [None] + list(range(greatest + 1))


def rows_of(columns):
    """All rows of some columns, as dicts from names to values, the last column going round first."""
    found = [{}]
    for name, _, greatest, _ in columns:
        found = [dict(row, **{name: value}) for row in found for value in values_of(greatest)]
    return found


def small_histories(most, step=1):
    """Tuples (first columns, changes, columns at each edition) of all that have so many changes, or each so many-th."""
    for first in FIRSTS:
        told = [[]]
        for _ in range(most):
            told = [changes + [change] for changes in told for change in CHANGES
                    if editions(first, changes + [change]) is not None]
        for changes in told[::step]:
            yield first, changes, editions(first, changes)


def any_change(chance, columns, greatest):
    """Some change of some columns, drawn from a random.Random, with no integer above a greatest one."""
    name = chance.choice(columns)[0] if chance.random() < 0.95 else "z"
    kind = chance.choice(["add", "add", "drop", "rename", "default", "default", "greatest", "greatest", "fill", "fill"])
    value = chance.choice([None] + list(range(greatest + 1)))
    if kind == "add":
        return ("add", chance.choice("abcd"), chance.randint(1, greatest), value)
    if kind == "rename":
        return ("rename", name, chance.choice("abcd"))
    if kind == "default":
        return ("default", name, value)
    if kind == "greatest":
        return ("greatest", name, chance.randint(1, greatest), chance.choice(["cut", "none", "refuse", "refuse"]))
    return ("drop", name) if kind == "drop" else ("fill", name, chance.randint(0, greatest))


def drawn_history(chance, many, greatest, widest=3):
    """Columns and so many changes of them, drawn from a random.Random, and the columns at each edition."""
    first = []
    for number in range(chance.randint(1, 2)):
        most = chance.randint(1, greatest)
        first.append(("ab"[number], number, most, chance.choice(values_of(most))))
    changes = []
    while len(changes) < many:
        change = any_change(chance, editions(first, changes)[-1], greatest)
        there = editions(first, changes + [change])
        if there is not None and len(there[-1]) <= widest:
            changes.append(change)
    return first, changes, editions(first, changes)


class Shelf:
    """One row as a book stores it, change by change, from the edition at which it is written.

    The book has the parts missing, numbering, mapping and touching. plain is what the plain table has, or None once the
    row is barred; kept is what is stored; log has for each column what was done to it behind that; added the defaults
    of those that were added behind it.
    """

    def __init__(self, book, there, changes, edition, row):
        self.book = book
        self.there = there
        self.changes = changes
        self.number_of = {column[0]: column[1] for column in there[0]}
        self.used = len(self.number_of)
        self.free = None
        for at in range(edition):
            self.number(changes[at])
        # For a row that was written behind the drop the number has no life till it is given again.
        self.unborn = self.free
        self.at = edition
        self.plain = dict(row)
        self.touch()

    def number(self, change):
        kind, name = change[:2]
        if kind == "drop":
            gone = self.number_of.pop(name)
            self.free, self.unborn = (gone if self.book.numbering == "again" else None), None
        elif kind == "rename":
            self.number_of[change[2]] = self.number_of.pop(name)
        elif kind == "add" and self.free is not None:
            self.number_of[name], self.free, self.unborn = self.free, None, None
        elif kind == "add":
            self.number_of[name] = self.used
            self.used += 1

    def touch(self):
        self.kept = (self.at, {self.number_of[name]: value for name, value in self.plain.items()})
        self.log = {name: [] for name in self.plain}
        self.added = {}

    def step(self):
        change = self.changes[self.at]
        kind, name = change[:2]
        columns = self.there[self.at]
        self.plain = row_behind(columns, change, self.plain)
        if self.plain is None:
            return
        self.number(change)
        self.at += 1
        if kind == "add":
            self.log[name] = []
            self.added[name] = change[3]
        elif kind == "drop":
            del self.log[name]
            self.added.pop(name, None)
        elif kind == "rename":
            self.log[change[2]] = self.log.pop(name)
            if name in self.added:
                self.added[change[2]] = self.added.pop(name)
        else:
            greatest = [column[2] for column in columns if column[0] == name][0]
            self.log[name].append((greatest,) + change)
        if kind in self.book.touching:
            self.touch()

    def column(self, name):
        return [column for column in self.there[self.at] if column[0] == name][0]

    def signs(self, name):
        """The latest way and the latest fill among what was done to a column."""
        ways = [change[4] for change in self.log[name]
                if change[1] == "greatest" and change[3] < change[0] and change[4] != "refuse"]
        fills = [change[3] for change in self.log[name] if change[1] == "fill"]
        return (ways or [""])[-1], (fills or [None])[-1]

    def read(self, name):
        _, _, greatest, default = self.column(name)
        stored = self.kept[1].get(self.number_of[name], "missing")
        if stored == "missing" and self.book.missing != "kept":
            return default if self.book.missing == "present" else None
        value = self.added[name] if stored == "missing" else stored
        if self.book.mapping == "order":
            for change in self.log[name]:
                led = value_behind(change[0], change[1:], value)
                value = value if led == "bar" else led
            return value
        way, fill = self.signs(name)
        if value is not None and value > greatest:
            value = None if way == "none" else greatest
        return fill if value is None else value

    def life(self, name):
        """The life of the number of a column."""
        _, _, greatest, default = self.column(name)
        stored = self.kept[1].get(self.number_of[name], "missing")
        book = self.book
        if book.mapping == "last":
            start = self.added[name] if stored == "missing" and book.missing == "kept" else None
            memory = (start,) + self.signs(name)
        else:
            memory = self.read(name) if stored != "missing" or book.missing == "kept" else None
        if stored != "missing" and (book.numbering, book.mapping) == ("fresh", "order"):
            stored = "there"
        return (greatest, default, self.plain[name], stored, memory)

    def lives(self):
        """The lives of all columns by their names, and that of the number that was dropped last under None."""
        found = {name: self.life(name) for name in self.plain}
        if self.free is not None and self.free != self.unborn:
            found[None] = ("dropped", self.kept[1].get(self.free, "missing"))
        return found


def step_of(change, name, touching):
    """The step that a change is for the column of a name, or for the dropped one under None; None if it is none."""
    kind = change[0]
    if kind == "rename":
        return None
    if name is None and kind == "add":
        return (kind,) + change[2:]
    if name is not None and kind != "add" and change[1] == name:
        return (kind,) + change[2:]
    return ("other", kind) if kind in touching else None


def is_dead(there, changes, edition):
    """Whether some column that was added behind an edition has nothing that leads on from it."""
    here = {column[1] for column in there[edition]}
    later = {column[1] for columns in there[edition:] for column in columns} - here
    return any(lead(there, changes, number, edition) == {} for number in later)


def live(there, changes):
    return [edition for edition in range(len(there)) if not is_dead(there, changes, edition)]


def parting(there, changes, one, other):
    """The first number and argument on which the maps of two editions differ, or None."""
    order = ["missing", None] + list(range(100))
    for number in sorted(column[1] for column in there[-1]):
        first, second = lead(there, changes, number, one), lead(there, changes, number, other)
        for argument in sorted(first, key=order.index):
            if argument in second and first[argument] != second[argument]:
                return number, argument
    return None


def together(there, changes):
    """All pairs of editions that are not dead and go together, both ways round."""
    ones = live(there, changes)
    return {(one, other) for one in ones for other in ones if parting(there, changes, one, other) is None}


def partings(editions):
    """All ways to part some editions into lists."""
    if not editions:
        yield []
        return
    for lots in partings(editions[1:]):
        yield [[editions[0]]] + lots
        for at, lot in enumerate(lots):
            yield lots[:at] + [[editions[0]] + lot] + lots[at + 1:]


def fewest(pairs, editions):
    """The least number of lists into which some editions are parted, any two of a list among the pairs."""
    return min(len(lots) for lots in partings(sorted(editions))
               if all((one, other) in pairs for lot in lots for one in lot for other in lot))


def stored_of(columns, edition, row):
    """A row, a dict from names to values, as it is stored at an edition with these columns."""
    return edition, tuple((number, row[name]) for name, number, _, _ in columns)


def followed_rows(first, changes):
    """For each stored row of edition 0 that can be there its values by names at the end."""
    there = editions(first, changes)
    found = {}
    for row in rows_of(first):
        told = trail(there, changes, 0, row)
        if len(told) == len(there):
            found[stored_of(first, 0, row)] = told[-1]
    return found


def differences(first, one, other):
    """All tuples that show that two lists of changes of the same columns do not make alike histories."""
    ends = [{name: parts for name, _, *parts in editions(first, changes)[-1]} for changes in (one, other)]
    names = set(ends[0]) | set(ends[1])
    found = {("column", name) for name in names if ends[0].get(name) != ends[1].get(name)}
    ones, others = followed_rows(first, one), followed_rows(first, other)
    found |= {("row", row) for row in set(ones) ^ set(others)}
    found |= {("read", row, name) for row in set(ones) & set(others) for name in set(ends[0]) & set(ends[1])
              if ones[row][name] != others[row][name]}
    return found


def ending(first, changes):
    """What alike histories have in common, and only they: the columns by names at the end, and the rows."""
    columns = sorted((name, greatest, -1 if default is None else default)
                     for name, _, greatest, default in editions(first, changes)[-1])
    rows = {row: tuple(sorted(values.items())) for row, values in followed_rows(first, changes).items()}
    return tuple(columns), frozenset(rows.items())
