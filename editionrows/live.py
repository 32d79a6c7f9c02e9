"""Live tables: a history and stored rows that go on step by step, and steps that are taken back."""

from editionrows.errors import BadPart, BadRow, CannotBe, NothingToUndo, TooMany
from editionrows.histories import History
from editionrows.late import late_row
from editionrows.plain import Plain
from editionrows.stored import barred_at, followed, store
from editionrows.touches import touched
from editionrows.values import is_whole

MOST_ROWS = 100


class Trial:
    """Brings a live table back, at the end of a with, to what it was when it began."""

    def __init__(self, live):
        self.live = live

    def __enter__(self):
        live = self.live
        self.history = live.history
        self._rows = live._rows
        self._past = list(live._past)
        return live

    def __exit__(self, kind, value, trace):
        live = self.live
        live.history = self.history
        live._rows = self._rows
        live._past = self._past


class Live:
    """A history, and stored rows each of which can be followed to the present."""

    def __init__(self, history):
        if not isinstance(history, History):
            raise BadPart("history")
        self.history = history
        # Tuples of rows are never changed, so what was there ahead of a step can be kept as it is.
        self._rows = ()
        self._past = []

    def __len__(self):
        return len(self._rows)

    def _go_on(self, history, rows):
        self._past.append((self.history, self._rows))
        self.history = history
        self._rows = rows

    def _put(self, row):
        if len(self._rows) >= MOST_ROWS:
            raise TooMany(MOST_ROWS)
        self._go_on(self.history, self._rows + (row,))
        return len(self._rows) - 1

    def change(self, change):
        """Puts a change behind the history."""
        behind = self.plain().changed(change)
        self._go_on(behind.history, self._rows)

    def write(self, told):
        """Writes a row at the present, and returns its index."""
        return self._put(store(self.history, told))

    def write_late(self, edition, told):
        """Writes a row as a writer at an elder edition does, and returns its index."""
        row = late_row(self.history, edition, told)
        if barred_at(self.history, row) is not None:
            raise CannotBe("row")
        return self._put(row)

    def touch(self, index):
        """Writes a row anew at the present."""
        row = touched(self.history, self.stored(index))
        self._go_on(self.history, self._rows[:index] + (row,) + self._rows[index + 1:])

    def touch_all(self):
        """Writes all rows anew at the present, as one step."""
        self._go_on(self.history, tuple([touched(self.history, row) for row in self._rows]))

    def stored(self, index):
        """The stored row of an index."""
        if not is_whole(index) or not 0 <= index < len(self._rows):
            raise BadRow(index)
        return self._rows[index]

    def read(self, index):
        """The values of a row at the present, by the names of the columns."""
        return followed(self.history, self.stored(index))

    def plain(self):
        """The Plain of the present, with what is read of all rows."""
        return Plain(self.history, [followed(self.history, row) for row in self._rows])

    def eldest(self):
        """The least edition of a row, or None without rows."""
        return min([int(row[0]) for row in self._rows], default=None)

    def steps(self):
        """How many steps are not taken back."""
        return len(self._past)

    def undo(self):
        """Takes back the last step."""
        if len(self._past) == 0:
            raise NothingToUndo("step")
        history, rows = self._past.pop()
        self.history = history
        self._rows = rows

    def attempt(self, deed):
        """What a function returns of the table, which then is as it was ahead of it, also behind an error."""
        with self.trying() as live:
            return deed(live)

    def trying(self):
        """An object for one with, behind which the table is as it was when it began."""
        return Trial(self)
