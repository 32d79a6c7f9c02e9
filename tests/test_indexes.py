import random
import unittest

from editionrows.columns import Column
from editionrows.errors import BadColumn, BadEdition, BadRow, BadValue
from editionrows.histories import History
from editionrows.indexes import (StoredIndex, is_alike_unique, is_in_order, order_break, stored_values, unique_break)
from editionrows.stored import all_stored, followed, stored_value
from tests import model
from tests.helpers import NO_LISTS, STRANGE, Case, history_of

HISTORY = History([Column("a", 3, 0), Column("b", 2, 2)], [
    ("greatest", "a", 2, "cut"),        # 1
    ("greatest", "a", 3, "cut"),        # 2
    ("add", "c", 3, 2),                 # 3: number 2
    ("fill", "c", 1),                   # 4
    ("greatest", "b", 1, "none"),       # 5
    ("drop", "b"),                      # 6
    ("greatest", "c", 2, "refuse"),     # 7
    ("rename", "a", "b"),               # 8
])
DEAD = History([Column("a", 2, 0)], [
    ("add", "b", 3, 2), ("default", "b", 0), ("greatest", "b", 1, "refuse"), ("fill", "a", 1),
])
CALLS = [order_break, unique_break, is_in_order, is_alike_unique]
ORDER = ["missing", None] + list(range(100))


class Values(Case):

    def test_at_each_edition(self):
        self.assertEqual([stored_values(HISTORY, 0, edition) for edition in range(9)],
                         [[None, 0, 1, 2, 3], [None, 0, 1, 2]] + [[None, 0, 1, 2, 3]] * 7)
        self.assertEqual([stored_values(HISTORY, 2, edition) for edition in range(9)],
                         [["missing"]] * 3 + [[None, 0, 1, 2]] * 6)

    def test_dead_editions(self):
        for number in [0, 1]:
            self.same(stored_values(DEAD, number, 0), [])
        self.same(stored_values(DEAD, 0, 1), [None, 0, 1, 2])
        self.same(stored_values(DEAD, 1, 1), [None, 0, 1])

    def test_errors(self):
        for number in STRANGE + [None, -1, 1, 3, "0"]:
            for edition in [0, 8, None, -1]:
                self.fails(BadColumn, number, stored_values, HISTORY, number, edition)
        for edition in STRANGE + [None, -1, 9, "0"]:
            self.fails(BadEdition, edition, stored_values, HISTORY, 0, edition)

    def test_what_is_told_is_new(self):
        stored_values(HISTORY, 0, 0).clear()
        self.same(stored_values(HISTORY, 0, 0), [None, 0, 1, 2, 3])


class Breaks(Case):

    def test_order(self):
        # a: 3 of edition 0 is read as 2, as 2 is; the 3 of a later one is read as 3.
        for editions, wanted in [([], True), ([0], True), ([2, 8], True), ([1, 5], True), ([0, 2], False)]:
            self.truth(is_in_order(HISTORY, 0, editions), wanted, editions)
        self.assertIn(order_break(HISTORY, 0, [0, 2]), [((2, 3), (0, 3))])
        self.assertIn(order_break(HISTORY, 0, (2, 0, 2)), [((2, 3), (0, 3))])
        # c: MISSING is read as 2 and stands ahead of what is less.
        self.truth(is_in_order(HISTORY, 2, [0, 1, 2]), True)
        self.truth(is_in_order(HISTORY, 2, [4, 8]), True)
        first, second = order_break(HISTORY, 2, [0, 4])
        self.same(first, (0, "missing"))
        self.assertIn(second, [(4, None), (4, 0), (4, 1)])
        # None of edition 3 is filled with 1, so it stands ahead of 0 and is read behind it.
        self.same(order_break(HISTORY, 2, [3]), ((3, None), (3, 0)))

    def test_equal_ones_stand_in_any_order(self):
        history = History([Column("a", 1)], [("fill", "a", 0), ("fill", "a", 1)])
        self.same(order_break(history, 0, [0, 2]), ((0, None), (2, None)))
        self.same(order_break(history, 0, [2, 0]), ((0, None), (2, None)))
        self.same(order_break(history, 0, [1, 0]), ((1, None), (0, None)))

    def test_unique(self):
        self.truth(is_alike_unique(HISTORY, 0, []), True)
        self.truth(is_alike_unique(HISTORY, 0, [1, 2, 8]), True)
        self.assertIsNone(unique_break(HISTORY, 0, [1, 2, 8]))
        # Edition 0: 2 and 3 are read equal.
        self.same(sorted(unique_break(HISTORY, 0, [0])), [(0, 2), (0, 3)])
        self.truth(is_alike_unique(HISTORY, 0, [0]), False)
        self.truth(is_alike_unique(HISTORY, 2, [0, 1, 2]), True)
        self.same(sorted(unique_break(HISTORY, 2, [0, 4]), key=str), [(0, "missing"), (4, 2)])
        self.same(sorted(unique_break(HISTORY, 2, [3]), key=str), [(3, 1), (3, None)])
        # Equal ones of unlike editions are read unlike.
        history = History([Column("a", 1, 1)], [("fill", "a", 0), ("greatest", "a", 2, "cut"), ("fill", "a", 2)])
        self.same(sorted(unique_break(history, 0, [1, 3])), [(1, None), (3, None)])

    def test_dead_editions(self):
        for call in CALLS:
            self.assertIn(call(DEAD, 0, [0]), [None, True])
            self.assertIn(call(DEAD, 0, [0, 4]), [None, True])
        self.truth(is_in_order(DEAD, 0, [1]), False)

    def test_errors(self):
        for call in CALLS:
            for number in STRANGE + [None, -1, 1, 3, "0"]:
                self.fails(BadColumn, number, call, HISTORY, number, [0])
                self.fails(BadColumn, number, call, HISTORY, number, None)
                self.fails(BadColumn, number, call, HISTORY, number, [None])
            for editions in NO_LISTS:
                self.fails(BadEdition, None, call, HISTORY, 0, editions)
            for edition in STRANGE + [None, -1, 9, "0"]:
                self.fails(BadEdition, edition, call, HISTORY, 0, [edition])
                self.fails(BadEdition, edition, call, HISTORY, 2, (0, 0, edition, None))


ROWS = [(0, ((0, 3), (1, 0))), (8, ((0, 3), (2, 2))), (3, ((0, None), (1, 0), (2, None))), (0, ((0, 0), (1, None))),
        (4, ((0, 1), (1, 0), (2, None))), (0, ((0, 3), (1, 2))), (8, ((0, 2), (2, None)))]


class OfRows(Case):

    def test_by_hand(self):
        index = StoredIndex(HISTORY, 0, ROWS)
        self.assertEqual(len(index), 7)
        self.same(index.entries(), [2, 3, 4, 6, 0, 1, 5])
        self.same(index.reads(), [None, 0, 1, 2, 2, 3, 2])
        self.truth(index.is_sorted(), False)
        self.truth(index.unique_by_stored(), False)
        self.truth(index.unique_by_read(), False)
        self.same(index.find(2), [0, 5, 6])
        self.same(index.find(None), [2])
        self.same(index.find(1), [4])
        self.same(index.find(99), [])
        index = StoredIndex(HISTORY, 2, ROWS)
        self.same(index.entries(), [0, 3, 5, 2, 4, 6, 1])
        self.same(index.reads(), [2, 2, 2, 1, None, None, 2])
        self.same(index.find(2), [0, 1, 3, 5])
        self.same(index.find(None), [4, 6])

    def test_sorted_for_all_orders(self):
        # As they stand the values come in order, but equal ones may stand the other way round.
        rows = [(0, ((0, 3), (1, 0))), (8, ((0, 3), (2, 0)))]
        for told in [rows, rows[::-1]]:
            self.truth(StoredIndex(HISTORY, 0, told).is_sorted(), False)
            self.truth(StoredIndex(HISTORY, 0, told).unique_by_stored(), False)
            self.truth(StoredIndex(HISTORY, 0, told).unique_by_read(), True)
        rows = [(0, ((0, 3), (1, 0))), (8, ((0, 2), (2, 0)))]
        for told in [rows, rows[::-1]]:
            self.truth(StoredIndex(HISTORY, 0, told).is_sorted(), True)
            self.truth(StoredIndex(HISTORY, 0, told).unique_by_stored(), True)
            self.truth(StoredIndex(HISTORY, 0, told).unique_by_read(), False)
        rows = [(0, ((0, 3), (1, 0))), (0, ((0, 3), (1, 1)))]
        self.truth(StoredIndex(HISTORY, 0, rows).is_sorted(), True)

    def test_no_rows(self):
        for rows in [[], ()]:
            index = StoredIndex(HISTORY, 0, rows)
            self.assertEqual(len(index), 0)
            self.same(index.entries(), [])
            self.same(index.reads(), [])
            self.same(index.find(0), [])
            for holds in [index.is_sorted(), index.unique_by_stored(), index.unique_by_read()]:
                self.truth(holds, True)

    def test_what_is_told_is_new(self):
        rows = list(ROWS)
        index = StoredIndex(HISTORY, 0, rows)
        rows.clear()
        for call in [index.entries, index.reads, lambda: index.find(2)]:
            wanted = list(call())
            call().clear()
            self.same(call(), wanted)

    def test_errors(self):
        for number in STRANGE + [None, -1, 1, 3, "0"]:
            self.fails(BadColumn, number, StoredIndex, HISTORY, number, [])
            self.fails(BadColumn, number, StoredIndex, HISTORY, number, None)
        for rows in NO_LISTS:
            self.fails(BadRow, None, StoredIndex, HISTORY, 0, rows)
        for row in STRANGE + [None, 0, (9, ((0, 0), (2, 0))), (8, ((0, 0), (2, 3))), [8, ((0, 0), (2, 0))],
                              (4, ((0, 1), (1, 0), (2, 3))), (0, ((0, 4), (1, 0)))]:
            self.fails(BadRow, 0, StoredIndex, HISTORY, 0, [row])
            self.fails(BadRow, 7, StoredIndex, HISTORY, 2, ROWS + [row, None])
        for row in all_stored(DEAD, 0):
            self.fails(BadRow, 0, StoredIndex, DEAD, 0, [row])
        index = StoredIndex(HISTORY, 0, ROWS)
        for value in STRANGE + [-1, "missing", "0"]:
            self.fails(BadValue, value, index.find, value)


class Model(Case):
    """Against all pairs of stored values, and of rows."""

    def check_values(self, history, there, changes, number, editions):
        entries = []
        for edition in sorted(set(editions) & set(model.live(there, changes))):
            led = model.lead(there, changes, number, edition)
            self.same(stored_values(history, number, edition), list(led))
            entries += [(edition, stored, read) for stored, read in led.items()]
        for call, holds, broken in [(order_break, is_in_order, self.is_order_broken),
                                    (unique_break, is_alike_unique, self.is_unique_broken)]:
            wrong = [(one[:2], other[:2]) for one in entries for other in entries if broken(one, other)]
            found = call(history, number, editions)
            self.truth(holds(history, number, editions), not wrong)
            if wrong:
                self.assertIn(found, wrong)
            else:
                self.assertIsNone(found)

    def is_order_broken(self, one, other):
        return (ORDER.index(one[1]) <= ORDER.index(other[1])) and ORDER.index(one[2]) > ORDER.index(other[2])

    def is_unique_broken(self, one, other):
        return (one[1] == other[1]) is not (one[2] == other[2])

    def test_drawn_histories(self):
        chance = random.Random(23)
        for _ in range(250):
            first, changes, there = model.drawn_history(chance, chance.randint(0, 6), 3)
            history = history_of(first, changes)
            with self.subTest(first=first, changes=changes):
                for _, number, _, _ in there[-1]:
                    editions = [chance.randrange(len(there)) for _ in range(chance.randint(0, 4))]
                    self.check_values(history, there, changes, number, editions)

    def check_rows(self, history, name, number, rows):
        index = StoredIndex(history, number, rows)
        entries = [(ORDER.index(stored_value(row, number)), at, ORDER.index(followed(history, row)[name]))
                   for at, row in enumerate(rows)]
        entries.sort()
        reads = [ORDER[read] for _, _, read in entries]
        self.assertEqual(len(index), len(rows))
        self.same(index.entries(), [at for _, at, _ in entries])
        self.same(index.reads(), reads)
        fits = all(one[2] <= other[2] for one in entries for other in entries if one[0] <= other[0])
        self.truth(index.is_sorted(), fits)
        self.truth(index.unique_by_stored(), len({stored for stored, _, _ in entries}) == len(rows))
        self.truth(index.unique_by_read(), len(set(reads)) == len(rows))
        for value in [None, 0, 1, 2, 3]:
            self.same(index.find(value), sorted(at for _, at, read in entries if ORDER[read] == value))

    def test_drawn_rows(self):
        chance = random.Random(24)
        for _ in range(150):
            first, changes, there = model.drawn_history(chance, chance.randint(0, 6), 3, 2)
            history = history_of(first, changes)
            every = [row for edition in range(len(there)) for row in all_stored(history, edition)
                     if followed(history, row) is not None]
            for name, number, _, _ in there[-1]:
                rows = [chance.choice(every) for _ in range(chance.choice([0, 1, 2, 2, 3, 5]))]
                with self.subTest(first=first, changes=changes, rows=rows, number=number):
                    self.check_rows(history, name, number, rows)


class Example(Case):

    def test_by_name(self):
        self.same(stored_values(edition=1, number=0, history=HISTORY), [None, 0, 1, 2])
        self.same(order_break(editions=[3], number=2, history=HISTORY), ((3, None), (3, 0)))
        self.truth(is_in_order(editions=[3], number=2, history=HISTORY), False)
        self.assertIsNone(unique_break(editions=[1], number=0, history=HISTORY))
        self.truth(is_alike_unique(editions=[1], number=0, history=HISTORY), True)
        self.same(StoredIndex(rows=ROWS, number=0, history=HISTORY).find(value=2), [0, 5, 6])


if __name__ == "__main__":
    unittest.main()
