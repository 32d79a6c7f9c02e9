"""The errors of the package, each made from one argument that it keeps."""


class TableError(ValueError):
    """What does not fit a table, a history or a row."""


class BadColumn(TableError):
    """No column, or no number of one."""

    def __init__(self, index):
        self.index = index


class BadPart(TableError):
    """A part of a whole that does not fit."""

    def __init__(self, part):
        self.part = part


class BadChange(TableError):
    """No change, or one that cannot stand at its place."""

    def __init__(self, index):
        self.index = index


class CannotBe(TableError):
    """A change that cannot be done, with the word that tells why."""

    def __init__(self, word):
        self.word = word


class BadEdition(TableError):
    """No edition of a history."""

    def __init__(self, edition):
        self.edition = edition


class BadValue(TableError):
    """A value that does not fit what it is told for."""

    def __init__(self, name):
        self.name = name


class BadRow(TableError):
    """No row, or one that cannot be followed."""

    def __init__(self, index):
        self.index = index


class BadLot(TableError):
    """Two editions that do not go together."""

    def __init__(self, pair):
        self.pair = pair


class BadPair(TableError):
    """No pair of editions."""

    def __init__(self, index):
        self.index = index


class BadText(TableError):
    """A text that writes nothing that can be read."""

    def __init__(self, index):
        self.index = index


class BadLine(TableError):
    """A line that a console does not know."""

    def __init__(self, line):
        self.line = line


class BadLife(TableError):
    """No life, or one in which nothing is read."""

    def __init__(self, life):
        self.life = life


class UnknownName(KeyError):
    """The name of no column."""

    def __init__(self, name):
        self.name = name


class TooMany(OverflowError):
    """More than a limit lets."""

    def __init__(self, limit):
        self.limit = limit


class NothingToUndo(RuntimeError):
    """Nothing is there that could be taken back."""

    def __init__(self, name):
        self.name = name
