import unittest

from editionrows.columns import Column
from editionrows.errors import (BadChange, BadColumn, BadEdition, CannotBe, NothingToUndo, TooMany, UnknownName)
from editionrows.histories import History
from tests.helpers import STRANGE, Alike, Case

FIRST = [Column("a", 5, 3), Column("b", 9)]
CHANGES = [
    ("add", "c", 2, 1),                  # 1: number 2
    ("drop", "a"),                       # 2
    ("add", "a", 7, None),               # 3: number 3, under the name of a dropped one
    ("rename", "b", "d"),                # 4
    ("rename", "a", "b"),                # 5
    ("rename", "d", "a"),                # 6
    ("default", "a", 8),                 # 7
    ("greatest", "a", 6, "cut"),         # 8: the default becomes 6
    ("fill", "b", 4),                    # 9
    ("greatest", "a", 5, "none"),        # 10: the default becomes None
    ("greatest", "c", 1, "refuse"),      # 11
    ("drop", "b"),                       # 12
    ("add", "b", 1, 0),                  # 13: number 4
    ("greatest", "a", 9, "refuse"),      # 14
]
EDITIONS = [
    [("a", 5, 3, 0), ("b", 9, None, 1)],
    [("a", 5, 3, 0), ("b", 9, None, 1), ("c", 2, 1, 2)],
    [("b", 9, None, 1), ("c", 2, 1, 2)],
    [("b", 9, None, 1), ("c", 2, 1, 2), ("a", 7, None, 3)],
    [("d", 9, None, 1), ("c", 2, 1, 2), ("a", 7, None, 3)],
    [("d", 9, None, 1), ("c", 2, 1, 2), ("b", 7, None, 3)],
    [("a", 9, None, 1), ("c", 2, 1, 2), ("b", 7, None, 3)],
    [("a", 9, 8, 1), ("c", 2, 1, 2), ("b", 7, None, 3)],
    [("a", 6, 6, 1), ("c", 2, 1, 2), ("b", 7, None, 3)],
    [("a", 6, 6, 1), ("c", 2, 1, 2), ("b", 7, None, 3)],
    [("a", 5, None, 1), ("c", 2, 1, 2), ("b", 7, None, 3)],
    [("a", 5, None, 1), ("c", 1, 1, 2), ("b", 7, None, 3)],
    [("a", 5, None, 1), ("c", 1, 1, 2)],
    [("a", 5, None, 1), ("c", 1, 1, 2), ("b", 1, 0, 4)],
    [("a", 9, None, 1), ("c", 1, 1, 2), ("b", 1, 0, 4)],
]
BORN = [0, 0, 1, 3, 13]
DROPPED = [2, None, None, 12, None]
NO_EDITIONS = STRANGE + [-1, -2, 15, 100, "0", "missing"]


def parts(columns):
    return [(column.name, column.greatest, column.default, column.number) for column in columns]


def columns_many(many):
    return [Column(name, 5, number=9) for name in "abcdefghijk"[:many]]


def fills(many):
    return [("fill", "a", 0)] * many


class Making(Case):

    def test_numbers_are_those_of_the_places(self):
        history = History([Column("b", 1, number=7), Column("a", 2, 1, number=7), Column("c", 3, number=0)])
        self.assertEqual(parts(history.columns()), [("b", 1, None, 0), ("a", 2, 1, 1), ("c", 3, None, 2)])
        self.assertEqual(parts(history.first_columns()), parts(history.columns()))
        behind = History([Column("b", 1, number=7)], [("add", "a", 1, 0)])
        self.assertEqual(parts(behind.columns()), [("b", 1, None, 0), ("a", 1, 0, 1)])

    def test_tuples_are_taken(self):
        history = History(tuple(FIRST), tuple(CHANGES))
        self.assertEqual(parts(history.columns()), EDITIONS[-1])
        self.same(history.changes_told(), CHANGES)
        self.same(history.behind(0), CHANGES)
        self.truth(history == History(FIRST, CHANGES), True)

    def test_no_columns(self):
        for columns in [None, 0, "a", "ab", {}, {"a": FIRST[0]}, FIRST[0], True, b"a", {1}, object(), [], ()]:
            self.fails(BadColumn, None, History, columns)

    def test_no_column(self):
        for wrong in STRANGE + [None, 0, "a", ("a", 5, 3), [FIRST[1]], ("add", "c", 1, 0)]:
            self.fails(BadColumn, 0, History, [wrong])
            self.fails(BadColumn, 0, History, [wrong, FIRST[0]])
            self.fails(BadColumn, 1, History, (FIRST[0], wrong, FIRST[0]))
            self.fails(BadColumn, 2, History, FIRST + [wrong])

    def test_a_name_twice(self):
        self.fails(BadColumn, 1, History, [FIRST[0], FIRST[0]])
        self.fails(BadColumn, 2, History, FIRST + [Column("a", 1)])
        self.fails(BadColumn, 2, History, FIRST + [Column("b", 1, number=5), 3])
        self.fails(BadColumn, 6, History, columns_many(6) + [Column("f", 1)])

    def test_too_many_columns(self):
        self.assertEqual(len(History(columns_many(6)).columns()), 6)
        self.fails(TooMany, 6, History, columns_many(7))
        self.fails(TooMany, 6, History, columns_many(11))
        self.fails(BadColumn, 7, History, columns_many(7) + [None])

    def test_no_changes(self):
        for changes in [None, 0, "ab", {}, {("drop", "a"): 1}, True, b"a", object(), Alike(), History(FIRST)]:
            self.fails(BadChange, None, History, FIRST, changes)

    def test_no_change(self):
        for wrong in STRANGE + [None, 0, "drop", ["drop", "a"], ("drop", "A"), ("fill", "a", None), ("fill", "a", True)]:
            self.fails(BadChange, 0, History, FIRST, [wrong])
            self.fails(BadChange, 2, History, FIRST, [("drop", "a"), ("fill", "b", 0), wrong, None])
            self.fails(BadChange, 1, History, FIRST, (("drop", "a"), wrong))

    def test_what_cannot_be(self):
        for wrong in [("drop", "c"), ("rename", "a", "b"), ("rename", "a", "a"), ("add", "b", 1, 0), ("add", "c", 1, 2),
                      ("default", "a", 6), ("fill", "a", 6), ("greatest", "a", 2, "refuse")]:
            self.fails(BadChange, 0, History, FIRST, [wrong])
            self.fails(BadChange, 1, History, FIRST, [("fill", "a", 1), wrong])
        self.fails(BadChange, 1, History, FIRST, [("drop", "a"), ("drop", "a")])
        self.fails(BadChange, 1, History, FIRST, [("drop", "a"), ("drop", "b")])
        self.fails(BadChange, 0, History, columns_many(6), [("add", "z", 1, 0)])
        self.fails(BadChange, 1, History, columns_many(5), [("add", "z", 1, 0), ("add", "y", 1, 0)])

    def test_row_never_hinders(self):
        self.assertEqual(len(History([Column("a", 5)], [("greatest", "a", 1, "refuse")])), 1)

    def test_too_many_changes(self):
        self.assertEqual(len(History(FIRST, fills(40))), 40)
        self.fails(TooMany, 40, History, FIRST, fills(41))
        self.fails(TooMany, 40, History, FIRST, tuple(fills(60)))
        self.fails(BadChange, 40, History, FIRST, fills(40) + [("drop", "z")])
        self.fails(BadChange, 41, History, FIRST, fills(41) + [None])
        self.fails(BadChange, 3, History, FIRST, fills(3) + [None] + fills(50))

    def test_order_of_errors(self):
        self.fails(BadColumn, None, History, None, None)
        self.fails(BadColumn, 0, History, [None], None)
        self.fails(TooMany, 6, History, columns_many(7), None)
        self.fails(TooMany, 6, History, columns_many(7), [None])
        self.fails(BadChange, None, History, columns_many(6), None)

    def test_what_was_handed_in_may_be_spoilt(self):
        columns = list(FIRST)
        changes = list(CHANGES)
        history = History(columns, changes)
        self.assertEqual((columns, changes), (FIRST, CHANGES))
        columns.clear()
        changes.clear()
        self.assertEqual(parts(history.columns(0)), EDITIONS[0])
        self.same(history.changes_told(), CHANGES)
        self.assertEqual(len(history), 14)


class Reading(Case):

    def setUp(self):
        self.history = History(FIRST, CHANGES)

    def test_columns(self):
        self.assertEqual(parts(self.history.first_columns()), EDITIONS[0])
        self.assertEqual(parts(self.history.columns()), EDITIONS[-1])
        self.assertEqual(parts(self.history.columns(None)), EDITIONS[-1])
        for edition, wanted in enumerate(EDITIONS):
            self.assertEqual(parts(self.history.columns(edition)), wanted, edition)
        for edition in NO_EDITIONS:
            self.fails(BadEdition, edition, self.history.columns, edition)

    def test_changes_told_and_length(self):
        self.same(self.history.changes_told(), CHANGES)
        self.assertEqual(len(self.history), 14)
        self.same(History(FIRST).changes_told(), [])
        self.assertEqual(len(History(FIRST)), 0)

    def test_index(self):
        for index, change in enumerate(CHANGES):
            self.same(self.history[index], change)
        for index in STRANGE + [None, -1, -14, 14, 15, "0", slice(0, 2)]:
            self.fails(BadEdition, index, lambda: self.history[index])
        self.fails(BadEdition, 0, lambda: History(FIRST)[0])

    def test_no_iteration(self):
        self.assertRaises(TypeError, iter, self.history)
        self.assertRaises(TypeError, list, self.history)
        self.assertRaises(TypeError, iter, History(FIRST))
        self.assertRaises(TypeError, lambda: ("drop", "a") in self.history)
        self.assertRaises(TypeError, lambda: [change for change in self.history])

    def test_what_is_told_may_be_spoilt(self):
        for told in [self.history.first_columns, self.history.columns, self.history.changes_told]:
            told().clear()
            told().reverse()
        self.history.columns(3).clear()
        self.history.behind(3).clear()
        self.assertEqual(parts(self.history.first_columns()), EDITIONS[0])
        self.assertEqual(parts(self.history.columns()), EDITIONS[-1])
        self.assertEqual(parts(self.history.columns(3)), EDITIONS[3])
        self.same(self.history.changes_told(), CHANGES)
        self.same(self.history.behind(3), CHANGES[3:])
        self.assertEqual(len(self.history), 14)

    def test_column(self):
        for edition, wanted in enumerate(EDITIONS):
            for line in wanted:
                self.assertEqual(parts([self.history.column(line[0], edition=edition)]), [line])
        for line in EDITIONS[-1]:
            self.assertEqual(parts([self.history.column(line[0])]), [line])
            self.assertEqual(parts([self.history.column(line[0], edition=None)]), [line])

    def test_column_of_no_name(self):
        for name in STRANGE + [None, 0, 1, "d", "aa", "missing"]:
            self.fails(UnknownName, name, self.history.column, name)
            self.fails(UnknownName, name, self.history.column, name, edition=0)
        self.fails(UnknownName, "c", self.history.column, "c", edition=0)
        self.fails(UnknownName, "a", self.history.column, "a", edition=2)
        for edition in NO_EDITIONS:
            self.fails(BadEdition, edition, self.history.column, "a", edition=edition)
            self.fails(BadEdition, edition, self.history.column, None, edition=edition)

    def test_by_number(self):
        for edition, wanted in enumerate(EDITIONS):
            lines = {line[3]: line for line in wanted}
            for number in range(6):
                found = self.history.by_number(number, edition=edition)
                if number in lines:
                    self.assertEqual(parts([found]), [lines[number]])
                else:
                    self.assertIsNone(found)
        self.assertEqual(parts([self.history.by_number(4)]), [EDITIONS[-1][2]])
        self.assertEqual(parts([self.history.by_number(4, edition=None)]), [EDITIONS[-1][2]])
        self.assertIsNone(self.history.by_number(0))
        for number in STRANGE + [None, -1, 5, 100, "1"]:
            self.assertIsNone(self.history.by_number(number))
            self.assertIsNone(self.history.by_number(number, edition=0))
        for edition in NO_EDITIONS:
            self.fails(BadEdition, edition, self.history.by_number, 0, edition=edition)
            self.fails(BadEdition, edition, self.history.by_number, None, edition=edition)

    def test_numbers_born_and_dropped(self):
        self.same(self.history.numbers(), 5)
        self.same(History(FIRST).numbers(), 2)
        for number in range(5):
            self.same(self.history.born(number), BORN[number])
            self.same(self.history.dropped(number), DROPPED[number])
        for number in STRANGE + [None, -1, -5, 5, 6, "0"]:
            self.fails(BadColumn, number, self.history.born, number)
            self.fails(BadColumn, number, self.history.dropped, number)

    def test_numbers_go_on_behind_a_drop(self):
        history = History([Column("a", 1), Column("b", 1)], [("drop", "b"), ("add", "b", 1, 0), ("drop", "b"),
                                                               ("add", "b", 1, 0)])
        self.assertEqual([[column.number for column in history.columns(edition)] for edition in range(5)],
                         [[0, 1], [0], [0, 2], [0], [0, 3]])
        self.assertEqual([history.born(number) for number in range(4)], [0, 0, 2, 4])
        self.assertEqual([history.dropped(number) for number in range(4)], [None, 1, 3, None])
        self.same(history.numbers(), 4)


class Others(Case):

    def setUp(self):
        self.history = History(FIRST, CHANGES)

    def test_then(self):
        history = History(FIRST)
        for many, change in enumerate(CHANGES):
            ahead = history
            history = ahead.then(change)
            self.assertIsNot(history, ahead)
            self.assertEqual(len(ahead), many)
            self.same(ahead.changes_told(), CHANGES[:many])
            self.assertEqual(parts(ahead.columns()), EDITIONS[many])
            self.assertEqual(parts(history.columns()), EDITIONS[many + 1])
        self.truth(history == self.history, True)

    def test_then_fails(self):
        full = History(FIRST, fills(40))
        for wrong in STRANGE + [None, ["drop", "a"], ("drop", "A"), ("fill", "a", None)]:
            self.fails(BadChange, wrong, self.history.then, wrong)
            self.fails(BadChange, wrong, full.then, wrong)
        for change, word in [(("drop", "z"), "unknown"), (("rename", "a", "b"), "alive"), (("add", "z", 1, 2), "above"),
                             (("fill", "a", 10), "above"), (("greatest", "a", 2, "refuse"), "default")]:
            self.fails(CannotBe, word, History(FIRST).then, change)
            self.fails(CannotBe, word, full.then, change)
        self.fails(CannotBe, "only", History(FIRST[:1]).then, ("drop", "a"))
        self.fails(CannotBe, "many", History(columns_many(6)).then, ("add", "z", 1, 0))
        self.fails(TooMany, 40, full.then, ("fill", "a", 0))
        self.assertEqual(len(full.back().then(("drop", "b"))), 40)
        self.assertEqual(len(full), 40)

    def test_back(self):
        history = self.history
        for many in range(13, -1, -1):
            history = history.back()
            self.same(history.changes_told(), CHANGES[:many])
            self.assertEqual(parts(history.columns()), EDITIONS[many])
        self.fails(NothingToUndo, "change", history.back)
        self.assertEqual(len(self.history), 14)

    def test_up_to_and_behind(self):
        for edition in range(15):
            history = self.history.up_to(edition)
            self.assertIs(type(history), History)
            self.same(history.changes_told(), CHANGES[:edition])
            self.assertEqual(parts(history.columns()), EDITIONS[edition])
            self.assertEqual(parts(history.first_columns()), EDITIONS[0])
            self.same(self.history.behind(edition), CHANGES[edition:])
        for edition in NO_EDITIONS + [None]:
            self.fails(BadEdition, edition, self.history.up_to, edition)
            self.fails(BadEdition, edition, self.history.behind, edition)
        self.fails(BadEdition, 1, History(FIRST).up_to, 1)

    def test_equality(self):
        self.truth(self.history == History(FIRST, CHANGES), True)
        self.truth(self.history != History(FIRST, CHANGES), False)
        self.truth(History([Column("a", 1, number=4)]) == History([Column("a", 1)]), True)
        others = [History(FIRST), History(FIRST, CHANGES[:-1]), History([Column("a", 5, 4), FIRST[1]], CHANGES),
                  History([FIRST[0], Column("b", 9, 0)], CHANGES), History([FIRST[1], FIRST[0]]),
                  History(FIRST, CHANGES[:-1] + [("greatest", "a", 9, "cut")])]
        for at, one in enumerate(others):
            self.truth(one == self.history, False)
            self.truth(one != self.history, True)
            for other in others[at + 1:]:
                self.truth(one == other, False)
        for other in STRANGE + [None, CHANGES, FIRST]:
            self.truth(self.history == other, False)
        # The same present with other changes is not equal.
        self.truth(History(FIRST, [("fill", "a", 0)]) == History(FIRST), False)

    def test_by_name(self):
        history = History(changes=CHANGES, columns=FIRST)
        self.assertEqual(parts(history.columns(edition=1)), EDITIONS[1])
        self.assertEqual(parts([history.column(edition=1, name="c")]), [EDITIONS[1][2]])
        self.assertEqual(parts([history.by_number(edition=1, number=2)]), [EDITIONS[1][2]])
        self.same(history.born(number=3), 3)
        self.same(history.dropped(number=3), 12)
        self.assertEqual(len(history.then(change=("drop", "a"))), 15)
        self.assertEqual(len(history.up_to(edition=4)), 4)
        self.same(history.behind(edition=13), CHANGES[13:])
        self.assertRaises(TypeError, history.column, "c", 1)
        self.assertRaises(TypeError, history.by_number, 2, 1)


if __name__ == "__main__":
    unittest.main()
