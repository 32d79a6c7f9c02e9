"""Orders: changes that can be exchanged, and the shortest history that is alike to one."""

from editionrows.changes import WAYS, changed_value, columns_behind, hindrance, is_change, kind_of
from editionrows.columns import column_named
from editionrows.errors import BadChange, BadPart, TooMany
from editionrows.histories import History
from editionrows.likes import are_alike
from editionrows.values import LETTERS, MISSING, is_missing, is_whole

KINDS = ("fill", "greatest", "default", "rename", "drop", "add")
LONGEST = 3
MOST_LOOKED = 20000


def can_be_done(columns, changes):
    """Whether changes can be done to some Columns, one behind the other."""
    for change in changes:
        if hindrance(columns, change) is not None:
            return False
        columns = columns_behind(columns, change, 0)
    return True


def can_be_exchanged(columns, first, second):
    """Whether two changes that can be done to some Columns can be exchanged."""
    if not can_be_done(columns, [second, first]):
        return False
    return are_alike(History(columns, [first, second]), History(columns, [second, first]))


def exchanged(history, index):
    """The History with a change and the one behind it in the other order, or None if they cannot be exchanged."""
    if not is_whole(index) or not 0 <= index < len(history) - 1:
        raise BadChange(index)
    first, second = history[index], history[index + 1]
    if not can_be_exchanged(history.columns(index), first, second):
        return None
    changes = history.changes_told()
    return History(history.first_columns(), changes[:index] + [second, first] + changes[index + 2:])


def exchanges(history):
    """The indexes of the changes that can be exchanged with the one behind them, ascending."""
    return [index for index in range(len(history) - 1) if exchanged(history, index) is not None]


def is_other_way_round(history, index):
    """Whether the kinds of a change and of the one behind it stand the other way round in the order of kinds."""
    return KINDS.index(kind_of(history[index])) > KINDS.index(kind_of(history[index + 1]))


def least_order(history):
    """The History to which exchanges lead that bring the kinds into their order, the first two of them each time."""
    index = 0
    while index < len(history) - 1:
        behind = exchanged(history, index) if is_other_way_round(history, index) else None
        if behind is None:
            index += 1
        else:
            history = behind
            # Of all that is ahead of an exchange only the change next to it has got another neighbour.
            index = index - 1 if index > 0 else 0
    return history


def begun_leads(columns):
    """For the number of each of the first Columns, tuples (argument, value) of what it has and where this leads."""
    return {column.number: tuple([(value, value) for value in column.all_values()]) for column in columns}


def changed_pairs(column, change, pairs):
    """Where a change of a Column leads the values of tuples (argument, value); those that are barred are left out."""
    if kind_of(change) == "drop":
        # Which rows are barred is still told by the arguments.
        return tuple([(argument, None) for argument, _ in pairs])
    led = [(argument, changed_value(column, change, value)) for argument, value in pairs]
    return tuple([(argument, value) for argument, value in led if not is_missing(value)])


def leads_behind(columns, change, leads, number):
    """Where the rows of the beginning are led behind a change; nothing is left if all of them are barred."""
    if len(leads) == 0:
        return leads
    if kind_of(change) == "add":
        return {**leads, number: ((MISSING, change[3]),)}
    column = column_named(columns, change[1])
    pairs = changed_pairs(column, change, leads[column.number])
    return {**leads, column.number: pairs} if len(pairs) > 0 else {}


def state_behind(state, change):
    """What a change makes of a state: a tuple (Columns, where the rows of the beginning are led, by numbers)."""
    columns, leads = state
    number = 1 + max([int(given) for given in leads], default=0)
    return (columns_behind(columns, change, number), leads_behind(columns, change, leads, number))


def source_of(column, leads, many):
    """Where the values of a Column come from: one of so many first columns, or a default that all rows have."""
    if len(leads) == 0:
        return None
    return (column.number,) if column.number < many else leads[column.number]


def state_key(state, many):
    """What two states have in common if they are alike, and only then; so many columns were there first."""
    columns, leads = state
    named = {column.name: column for column in columns}
    parts = [(name, named[name].greatest, named[name].default, source_of(named[name], leads, many))
             for name in sorted([str(column.name) for column in columns])]
    return (tuple(parts), tuple([leads[number] for number in range(many) if number in leads]))


def names_looked_at(columns):
    """The names of some Columns, each once, and one other name."""
    names = []
    for column in columns:
        if column.name not in names:
            names.append(column.name)
    return names + [letter for letter in LETTERS if letter not in names][:1]


def changes_of_name(name, names, numbers):
    """All changes of a name, with other names and numbers out of some."""
    told = [("drop", name)]
    told.extend([("add", name, greatest, default) for greatest in numbers for default in [None] + numbers])
    told.extend([("rename", name, other) for other in names])
    told.extend([("default", name, value) for value in [None] + numbers])
    told.extend([("greatest", name, greatest, way) for greatest in numbers for way in WAYS])
    told.extend([("fill", name, value) for value in numbers])
    return told


def changes_looked_at(history):
    """The changes of which a shortest alike history can be made."""
    columns = history.first_columns() + history.columns()
    numbers = list(range(2 + max([int(column.greatest) for column in columns])))
    names = names_looked_at(columns)
    return [change for name in names for change in changes_of_name(name, names, numbers) if is_change(change)]


class Search:
    """A search, by length, for a history that is alike to one; each that is alike to one looked at is left out."""

    def __init__(self, history):
        columns = history.first_columns()
        state = (columns, begun_leads(columns))
        wanted = state
        for change in history.changes_told():
            wanted = state_behind(wanted, change)
        self.many = len(columns)
        self.wanted = state_key(wanted, self.many)
        self.changes = changes_looked_at(history)
        self.looked = {}
        self.longest = []
        self.found = None
        self.look_at(state, ())

    def look_at(self, state, done):
        """Looks at the history that some changes make, with the state behind them."""
        key = state_key(state, self.many)
        if key in self.looked:
            return
        if len(self.looked) == MOST_LOOKED:
            raise TooMany(MOST_LOOKED)
        self.looked[key] = True
        self.longest.append((state, done))
        if key == self.wanted:
            self.found = done

    def go_on(self):
        """Looks at the histories with one change more than the longest ones, up to one that is alike."""
        ahead = self.longest
        self.longest = []
        for state, done in ahead:
            for change in self.changes:
                if self.found is None and hindrance(state[0], change) is None:
                    self.look_at(state_behind(state, change), done + (change,))


def shortest(history, *, most=2):
    """A History as short as possible, of at most so many changes, that is alike to one, or None."""
    if not is_whole(most) or not 0 <= most <= LONGEST:
        raise BadPart("most")
    search = Search(history)
    for _ in range(most):
        search.go_on()
    return None if search.found is None else History(history.first_columns(), search.found)
