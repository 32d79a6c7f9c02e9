"""What the tests share: wrong values of many kinds, a check for an error with what it keeps, books and histories."""

import itertools
import unittest

from editionrows import errors
from editionrows.books import MAPPINGS, MISSINGS, NUMBERINGS, TOUCHES, Book
from editionrows.columns import Column
from editionrows.histories import History

ATTRIBUTES = {
    errors.BadColumn: "index", errors.BadPart: "part", errors.BadChange: "index", errors.CannotBe: "word",
    errors.BadEdition: "edition", errors.BadValue: "name", errors.BadRow: "index", errors.BadLot: "pair",
    errors.BadPair: "index", errors.BadText: "index", errors.BadLine: "line", errors.BadLife: "life",
    errors.UnknownName: "name", errors.TooMany: "limit", errors.NothingToUndo: "name",
}


class Alike:
    """Says that it is equal to everything, so that a check by == alone is seen."""

    def __eq__(self, other):
        return True

    __hash__ = None


# What is neither None, nor an integer, nor the string of MISSING, nor a name.
STRANGE = [True, False, "", "A", "None", "0", b"a", [], [0], ["a"], (), (0,), {}, {"a": 0}, {0}, object, object(), Alike()]


class Case(unittest.TestCase):

    def fails(self, error, kept, call, *given, **named):
        """A call raises just this error, which keeps just this value."""
        with self.assertRaises(error) as caught:
            call(*given, **named)
        self.assertIs(type(caught.exception), error)
        self.same(getattr(caught.exception, ATTRIBUTES[error]), kept)

    def same(self, found, wanted):
        """The same value, where True is not 1 and a list is not a tuple."""
        if found is not wanted:
            self.assertIs(type(found), type(wanted))
            self.assertEqual(found, wanted)

    def truth(self, found, wanted, message=None):
        """Just True or just False."""
        self.assertIs(found, wanted, message)


def all_books():
    """A Book for each missing, numbering, mapping and touching."""
    for missing, numbering, mapping in itertools.product(MISSINGS, NUMBERINGS, MAPPINGS):
        for many in range(len(TOUCHES) + 1):
            for touching in itertools.combinations(TOUCHES, many):
                yield Book(missing=missing, numbering=numbering, mapping=mapping, touching=touching)


def history_of(first, changes):
    """The History of columns as tests/model.py has them, and changes."""
    return History([Column(name, greatest, default) for name, _, greatest, default in first], changes)


# What cannot stand where a list is asked for.
NO_LISTS = [None, 0, True, "0", "", {0}, {0: 0}, {}, object(), object, Alike(), b"0", range(2)]
