import random
import unittest

from editionrows import maps
from editionrows.columns import Column
from editionrows.elders import can_be_there, can_read, editions_for, elder_read, is_dead, readers_of, unread_row
from editionrows.errors import BadEdition, BadRow
from editionrows.histories import History
from editionrows.stored import is_stored
from tests import model
from tests.helpers import STRANGE, Case, history_of

HISTORY = History([Column("a", 3, 0), Column("b", 1, 1)], [
    ("rename", "a", "c"),               # 1
    ("greatest", "c", 2, "cut"),        # 2
    ("add", "a", 2, 1),                 # 3: number 2
    ("greatest", "c", 4, "none"),       # 4
    ("greatest", "c", 3, "refuse"),     # 5: bars 4 of edition 4
    ("drop", "b"),                      # 6
    ("add", "b", 1, 0),                 # 7: number 3, another column of the name
    ("greatest", "a", 1, "refuse"),     # 8: a was added with 1, so nothing elder is barred
])
DEAD = History([Column("a", 2, 0)], [
    ("add", "b", 3, 2), ("default", "b", 0), ("greatest", "b", 1, "refuse"), ("greatest", "a", 3, "cut"),
])
NO_EDITIONS = STRANGE + [None, -1, 9, 100, "0"]


class Reads(Case):

    def test_names_as_the_reader_knows_them(self):
        row = (3, ((0, 2), (1, 0), (2, 1)))
        self.same(elder_read(HISTORY, 0, row), {"a": 2, "b": 0})
        self.same(elder_read(HISTORY, 1, row), {"c": 2, "b": 0})
        self.same(elder_read(HISTORY, 3, row), {"c": 2, "b": 0, "a": 1})
        self.assertEqual(list(elder_read(HISTORY, 3, row)), ["c", "b", "a"])

    def test_values_are_not_followed(self):
        self.same(elder_read(HISTORY, 0, (0, ((0, 3), (1, None)))), {"a": 3, "b": None})
        self.same(elder_read(HISTORY, 0, (5, ((0, 3), (1, 0), (2, 0)))), {"a": 3, "b": 0})

    def test_above_what_the_reader_knows(self):
        self.assertIsNone(elder_read(HISTORY, 0, (4, ((0, 4), (1, 0), (2, 0)))))
        self.assertIsNone(elder_read(HISTORY, 2, (4, ((0, 3), (1, 0), (2, 0)))))
        self.same(elder_read(HISTORY, 2, (4, ((0, 2), (1, 0), (2, 0)))), {"c": 2, "b": 0})
        # The row is barred, and read all the same: it is stored.
        self.same(elder_read(HISTORY, 4, (4, ((0, 4), (1, 0), (2, 0)))), {"c": 4, "b": 0, "a": 0})

    def test_numbers_that_are_not_there(self):
        for reader in range(6):
            self.assertIsNone(elder_read(HISTORY, reader, (6, ((0, 0), (2, 0)))))
            self.assertIsNone(elder_read(HISTORY, reader, (7, ((0, 0), (2, 0), (3, 0)))))
        self.same(elder_read(HISTORY, 6, (7, ((0, 3), (2, 0), (3, 1)))), {"c": 3, "a": 0})

    def test_what_is_read_is_new(self):
        row = (1, ((0, 2), (1, 0)))
        elder_read(HISTORY, 0, row).clear()
        self.same(elder_read(HISTORY, 0, row), {"a": 2, "b": 0})

    def test_errors(self):
        row = (3, ((0, 2), (1, 0), (2, 1)))
        for value in NO_EDITIONS:
            self.fails(BadEdition, value, elder_read, HISTORY, value, row)
            self.fails(BadEdition, value, elder_read, HISTORY, value, None)
        for value in no_rows() + [(2, ((0, 2), (1, 0))), (0, ((0, 0), (1, 0)))]:
            self.fails(BadRow, value, elder_read, HISTORY, 3, value)


def no_rows():
    return STRANGE + [None, 0, "0", (3, ((0, 3), (1, 0), (2, 1))), (3, ((0, 2), (1, 0))), [3, ((0, 2), (1, 0), (2, 1))],
                      (3, [(0, 2), (1, 0), (2, 1)]), (True, ((0, 2), (1, 0))), (None, ((0, 2), (2, 1), (3, 0))),
                      (9, ((0, 2), (2, 1), (3, 0))), (3, ((0, True), (1, 0), (2, 1)))]


class There(Case):

    def test_by_hand(self):
        self.truth(can_be_there(HISTORY, (4, ((0, 3), (1, 0), (2, 0)))), True)
        self.truth(can_be_there(HISTORY, (4, ((0, 4), (1, 0), (2, 0)))), False)
        self.truth(can_be_there(HISTORY, (4, ((0, 3), (1, 0), (2, 2)))), False)
        self.truth(can_be_there(HISTORY, (8, ((0, 3), (2, 1), (3, 1)))), True)
        for value in model.values_of(2):
            self.truth(can_be_there(DEAD, (0, ((0, value),))), False)
            self.truth(can_be_there(DEAD, (1, ((0, value), (1, 1)))), True)

    def test_errors(self):
        for value in no_rows():
            self.fails(BadRow, value, can_be_there, HISTORY, value)


class Editions(Case):

    def test_by_hand(self):
        # 4 is barred by the refuse behind edition 4, so the reader of edition 0 can read all of it.
        self.truth(can_read(HISTORY, 0, 4), True)
        self.truth(can_read(HISTORY, 2, 4), False)
        self.same(unread_row(HISTORY, 2, 4), (4, ((0, 3), (1, 0), (2, 0))))
        self.assertIsNone(unread_row(HISTORY, 0, 4))
        self.same(unread_row(HISTORY, 0, 6), (6, ((0, 0), (2, 0))))
        self.same(readers_of(HISTORY, 5), [0, 1, 4, 5])
        self.same(readers_of(HISTORY, 6), [6])
        self.same(readers_of(HISTORY, 8), [6, 7, 8])
        self.same(readers_of(HISTORY, 0), [0])
        self.same(editions_for(HISTORY, 0), [0, 1, 2, 3, 4, 5])
        self.same(editions_for(HISTORY, 2), [2, 3])
        self.same(editions_for(HISTORY, 8), [8])

    def test_dead_editions(self):
        self.same([is_dead(DEAD, edition) for edition in range(5)], [True, False, False, False, False])
        self.truth(can_read(DEAD, 0, 0), True)
        self.assertIsNone(unread_row(DEAD, 0, 0))
        self.same(editions_for(DEAD, 0), [0, 1, 2, 3])
        # All rows of the dead edition 1 can be read by an elder reader, as none can be there.
        history = History([Column("a", 1)], [("greatest", "a", 2, "cut")] + DEAD.changes_told()[:3])
        self.truth(can_read(history, 0, 1), True)
        self.truth(can_read(history, 0, 2), False)
        self.same(readers_of(history, 1), [0, 1])

    def test_what_is_told_is_new(self):
        readers_of(HISTORY, 5).clear()
        self.same(readers_of(HISTORY, 5), [0, 1, 4, 5])
        editions_for(HISTORY, 2).clear()
        self.same(editions_for(HISTORY, 2), [2, 3])

    def test_errors(self):
        for call in [can_read, unread_row]:
            for value in NO_EDITIONS:
                self.fails(BadEdition, value, call, HISTORY, value, 0)
                self.fails(BadEdition, value, call, HISTORY, value, None)
                self.fails(BadEdition, value, call, HISTORY, 3, value)
            for reader in range(1, 9):
                self.fails(BadEdition, reader - 1, call, HISTORY, reader, reader - 1)
                self.fails(BadEdition, 0, call, HISTORY, reader, 0)
        for call in [readers_of, editions_for, is_dead]:
            for value in NO_EDITIONS:
                self.fails(BadEdition, value, call, HISTORY, value)


class Model(Case):
    """Against all stored rows."""

    def check_row(self, history, there, edition, row, is_there, unread):
        stored = model.stored_of(there[edition], edition, row)
        self.truth(can_be_there(history, stored), is_there)
        values = dict(stored[1])
        for reader in range(edition + 1):
            wanted = {}
            for name, number, greatest, _ in there[reader]:
                if number in values and values[number] in model.values_of(greatest):
                    wanted[name] = values[number]
            readable = len(wanted) == len(there[reader])
            self.same(elder_read(history, reader, stored), wanted if readable else None)
            if is_there and not readable:
                unread[reader].add(stored)
        for reader in range(edition + 1, len(there)):
            self.fails(BadRow, stored, elder_read, history, reader, stored)

    def check(self, history, there, changes):
        read = {}
        for edition, columns in enumerate(there):
            unread = [set() for _ in range(edition + 1)]
            dead = True
            for row in model.rows_of(columns):
                is_there = len(model.trail(there, changes, edition, row)) == len(there) - edition
                dead = dead and not is_there
                self.check_row(history, there, edition, row, is_there, unread)
            self.truth(is_dead(history, edition), dead)
            self.truth(maps.is_dead(history, edition), dead)
            for reader, rows in enumerate(unread):
                read[reader, edition] = not rows
                self.truth(can_read(history, reader, edition), not rows)
                found = unread_row(history, reader, edition)
                self.assertEqual(found is None, not rows)
                if rows:
                    self.assertIn(found, rows)
                    self.assertTrue(is_stored(history, found))
        editions = range(len(there))
        for edition in editions:
            self.same(readers_of(history, edition), [reader for reader in editions[:edition + 1] if read[reader, edition]])
            self.same(editions_for(history, edition), [later for later in editions[edition:] if read[edition, later]])

    def test_drawn_histories(self):
        chance = random.Random(33)
        for _ in range(120):
            first, changes, there = model.drawn_history(chance, chance.randint(0, 7), chance.choice([1, 2, 3]))
            with self.subTest(first=first, changes=changes):
                self.check(history_of(first, changes), there, changes)

    def test_small_histories(self):
        for most, step in [(1, 1), (2, 11), (3, 201)]:
            for first, changes, there in model.small_histories(most, step):
                with self.subTest(first=first, changes=changes):
                    self.check(history_of(first, changes), there, changes)

    def test_dead_histories(self):
        for first, changes in [([("a", 0, 2, 0)], DEAD.changes_told()),
                               ([("a", 0, 1, 0)], [("greatest", "a", 2, "cut")] + DEAD.changes_told())]:
            self.check(history_of(first, changes), model.editions(first, changes), changes)


class Wide(Case):

    def test_more_rows_than_can_be_gone_through(self):
        history = History([Column(name, 99) for name in "abcdef"], [("greatest", "f", 98, "none"), ("drop", "a")])
        self.same(unread_row(history, 1, 1), None)
        self.same(unread_row(history, 0, 2), (2, tuple((number, 0) for number in range(1, 6))))
        self.same(readers_of(history, 1), [0, 1])


class Example(Case):

    def test_by_name(self):
        row = (4, ((0, 3), (1, 0), (2, 0)))
        self.same(elder_read(row=row, reader=4, history=HISTORY), {"c": 3, "b": 0, "a": 0})
        self.truth(can_be_there(row=row, history=HISTORY), True)
        self.truth(can_read(edition=4, reader=2, history=HISTORY), False)
        self.same(unread_row(edition=4, reader=2, history=HISTORY), row)
        self.same(readers_of(edition=6, history=HISTORY), [6])
        self.same(editions_for(reader=2, history=HISTORY), [2, 3])
        self.truth(is_dead(edition=0, history=HISTORY), False)


if __name__ == "__main__":
    unittest.main()
