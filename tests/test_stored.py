import inspect
import unittest

from editionrows.columns import Column
from editionrows.errors import BadEdition, BadRow, BadValue, TooMany, UnknownName
from editionrows.histories import History
from editionrows.stored import all_stored, barred_at, followed, is_stored, store, stored_value
from tests.helpers import STRANGE, Alike, Case

HISTORY = History([Column("a", 3, 0), Column("b", 2)], [
    ("add", "c", 2, 2),                 # 1
    ("greatest", "a", 2, "refuse"),     # 2
    ("drop", "b"),                      # 3
    ("rename", "c", "b"),               # 4
    ("greatest", "b", 1, "none"),       # 5
    ("fill", "b", 0),                   # 6
    ("default", "b", 1),                # 7
    ("greatest", "a", 1, "refuse"),     # 8
])
GOOD = [
    (0, ((0, 3), (1, 2))), (0, ((0, None), (1, None))), (0, ((0, 0), (1, 0))),
    (1, ((0, 3), (1, 2), (2, 2))), (1, ((0, None), (1, 0), (2, None))),
    (2, ((0, 2), (1, 2), (2, 2))), (3, ((0, 2), (2, 2))), (4, ((0, 0), (2, 2))), (5, ((0, 2), (2, 1))),
    (8, ((0, 1), (2, 1))), (8, ((0, None), (2, None))),
]
WRONG = [
    # Parts of other kinds.
    (0,), (0, ((0, 3), (1, 2)), ()), [0, ((0, 3), (1, 2))], (0, [(0, 3), (1, 2)]), (0, ([0, 3], (1, 2))),
    (0, ((0, 3), [1, 2])), (0, {0: 3, 1: 2}), (0, None), (0, 3), ((0, 3), (1, 2)), (((0, 3), (1, 2)), 0),
    (0, ((0, 3), (1, 2, 3))), (0, ((0, 3), (1,))), (0, ((0, 3), ())), (0, ((0, 3), 1)), (0, ((0, 3), None)),
    # Other editions.
    (None, ((0, 1), (2, 1))), (-1, ((0, 1), (2, 1))), (9, ((0, 1), (2, 1))), ("0", ((0, 3), (1, 2))),
    (True, ((0, 3), (1, 2), (2, 2))), (False, ((0, 3), (1, 2))), ((), ((0, 3), (1, 2))), (Alike(), ((0, 3), (1, 2))),
    # Other numbers, or the right ones in another order, or twice.
    (0, ()), (0, ((0, 3),)), (0, ((1, 2),)), (0, ((1, 2), (0, 3))), (0, ((0, 3), (1, 2), (2, 2))),
    (0, ((0, 3), (0, 3))), (0, ((0, 3), (1, 2), (1, 2))), (0, ((0, 3), (2, 2))), (3, ((0, 2), (1, 2))),
    (3, ((0, 2), (1, 2), (2, 2))), (1, ((0, 3), (1, 2))), (0, ((False, 3), (True, 2))), (0, ((0, 3), (True, 2))),
    (0, (("0", 3), (1, 2))), (0, ((None, 3), (1, 2))), (0, ((Alike(), 3), (1, 2))), (0, (("a", 3), ("b", 2))),
    # Other values.
    (0, ((0, 4), (1, 2))), (0, ((0, 3), (1, 3))), (0, ((0, -1), (1, 2))), (0, ((0, True), (1, 2))),
    (0, ((0, 3), (1, False))), (0, ((0, "missing"), (1, 2))), (0, ((0, "3"), (1, 2))), (0, ((0, [3]), (1, 2))),
    (0, ((0, Alike()), (1, 2))), (2, ((0, 3), (1, 2), (2, 2))), (5, ((0, 2), (2, 2))), (8, ((0, 2), (2, 1))),
]
NO_ROWS = WRONG + STRANGE + [None, 0, 1, "missing"]
NO_EDITIONS = STRANGE + [-1, 9, 100, "0"]


class IsStored(Case):

    def test_rows_of_each_edition(self):
        for row in GOOD:
            self.truth(is_stored(HISTORY, row), True, row)
        for edition in range(9):
            for row in all_stored(HISTORY, edition):
                self.truth(is_stored(HISTORY, row), True, row)

    def test_others(self):
        for value in NO_ROWS:
            self.truth(is_stored(HISTORY, value), False, value)

    def test_another_history(self):
        self.truth(is_stored(HISTORY.up_to(3), (4, ((0, 0), (2, 2)))), False)
        self.truth(is_stored(HISTORY.up_to(4), (4, ((0, 0), (2, 2)))), True)


class Store(Case):

    def test_defaults_are_those_of_the_edition(self):
        for edition, wanted in [(0, ((0, 0), (1, None))), (1, ((0, 0), (1, None), (2, 2))),
                                (2, ((0, 0), (1, None), (2, 2))), (3, ((0, 0), (2, 2))), (5, ((0, 0), (2, None))),
                                (6, ((0, 0), (2, None))), (7, ((0, 0), (2, 1)))]:
            self.same(store(HISTORY, {}, edition=edition), (edition, wanted))
        self.same(store(HISTORY, {}), (8, ((0, 0), (2, 1))))
        self.same(store(HISTORY, {}, edition=None), (8, ((0, 0), (2, 1))))

    def test_what_is_told(self):
        self.same(store(HISTORY, {"a": 3, "b": 1}, edition=0), (0, ((0, 3), (1, 1))))
        self.same(store(HISTORY, {"b": 1, "a": None}, edition=0), (0, ((0, None), (1, 1))))
        self.same(store(HISTORY, {"c": None}, edition=3), (3, ((0, 0), (2, None))))
        self.same(store(HISTORY, {"b": None}, edition=4), (4, ((0, 0), (2, None))))
        self.same(store(HISTORY, {"a": 1, "b": 0}), (8, ((0, 1), (2, 0))))

    def test_no_edition(self):
        for edition in NO_EDITIONS:
            self.fails(BadEdition, edition, store, HISTORY, {}, edition=edition)
            self.fails(BadEdition, edition, store, HISTORY, None, edition=edition)
            self.fails(BadEdition, edition, store, HISTORY, {"z": 9}, edition=edition)

    def test_told_no_dict(self):
        for told in [None, 0, True, "a", [], (), [("a", 1)], (0, ((0, 3), (1, 2))), object()]:
            self.fails(BadRow, told, store, HISTORY, told)
            self.fails(BadRow, told, store, HISTORY, told, edition=0)

    def test_told_wrong(self):
        for name in ["c", "A", "", None, 0, True, (), b"a", "missing"]:
            self.fails(UnknownName, name, store, HISTORY, {name: 1})
            self.fails(UnknownName, name, store, HISTORY, {"a": 1, name: 9, "b": 9}, edition=0)
        for value in [True, False, -1, 4, "1", [1], {}, "missing"]:
            self.fails(BadValue, "a", store, HISTORY, {"a": value}, edition=0)
            self.fails(BadValue, "a", store, HISTORY, {"b": 1, "a": value, "z": 1})
        self.fails(BadValue, "a", store, HISTORY, {"a": 2})
        self.fails(BadValue, "b", store, HISTORY, {"b": 2, "a": 9})
        self.fails(UnknownName, "b", store, HISTORY, {"b": 0}, edition=3)

    def test_told_stays(self):
        told = {"b": 1}
        row = store(HISTORY, told)
        self.assertEqual(told, {"b": 1})
        told["b"] = 0
        self.same(row, (8, ((0, 0), (2, 1))))

    def test_is_stored(self):
        for edition in range(9):
            self.truth(is_stored(HISTORY, store(HISTORY, {"a": 1}, edition=edition)), True)


class StoredValue(Case):

    def test_values(self):
        row = (1, ((0, 3), (1, None), (2, 0)))
        self.same(stored_value(row, 0), 3)
        self.assertIsNone(stored_value(row, 1))
        self.same(stored_value(row, 2), 0)
        for number in [3, 4, 100]:
            self.same(stored_value(row, number), "missing")
        row = (3, ((0, 2), (2, 1)))
        self.same(stored_value(row, 1), "missing")
        self.same(stored_value(row, 2), 1)


class Followed(Case):

    def test_to_each_later_edition(self):
        row = (0, ((0, 2), (1, 1)))
        wanted = [{"a": 2, "b": 1}, {"a": 2, "b": 1, "c": 2}, {"a": 2, "b": 1, "c": 2}, {"a": 2, "c": 2},
                  {"a": 2, "b": 2}, {"a": 2, "b": None}, {"a": 2, "b": 0}, {"a": 2, "b": 0}, None]
        for edition, values in enumerate(wanted):
            self.same(followed(HISTORY, row, edition=edition), values)
        self.assertIsNone(followed(HISTORY, row))
        self.assertIsNone(followed(HISTORY, row, edition=None))
        self.same(barred_at(HISTORY, row), 8)

    def test_to_the_present(self):
        row = (0, ((0, None), (1, 2)))
        self.same(followed(HISTORY, row), {"a": None, "b": 0})
        self.assertEqual(list(followed(HISTORY, row)), ["a", "b"])
        self.assertIsNone(barred_at(HISTORY, row))
        self.same(followed(HISTORY, (4, ((0, 1), (2, 1)))), {"a": 1, "b": 1})
        self.same(followed(HISTORY, (4, ((0, 1), (2, 2)))), {"a": 1, "b": 0})
        # What was None at the fill or behind it is another thing.
        self.same(followed(HISTORY, (5, ((0, 1), (2, None)))), {"a": 1, "b": 0})
        self.same(followed(HISTORY, (6, ((0, 1), (2, None)))), {"a": 1, "b": None})
        self.same(followed(HISTORY, (8, ((0, 1), (2, None)))), {"a": 1, "b": None})

    def test_barred(self):
        row = (0, ((0, 3), (1, 1)))
        self.same(followed(HISTORY, row, edition=0), {"a": 3, "b": 1})
        self.same(followed(HISTORY, row, edition=1), {"a": 3, "b": 1, "c": 2})
        for edition in [2, 3, 7, 8, None]:
            self.assertIsNone(followed(HISTORY, row, edition=edition))
        self.same(barred_at(HISTORY, row), 2)
        self.same(barred_at(HISTORY, (1, ((0, 3), (1, 1), (2, 0)))), 2)
        self.same(barred_at(HISTORY, (2, ((0, 2), (1, 1), (2, 0)))), 8)
        self.same(barred_at(HISTORY, (7, ((0, 2), (2, 0)))), 8)
        self.assertIsNone(barred_at(HISTORY, (7, ((0, 1), (2, 0)))))
        self.assertIsNone(barred_at(HISTORY, (8, ((0, 1), (2, 0)))))

    def test_barred_in_a_column_that_came_later(self):
        history = History([Column("a", 1)], [("add", "b", 3, 2), ("default", "b", 0), ("greatest", "b", 1, "refuse"),
                                             ("drop", "b")])
        row = (0, ((0, 1),))
        self.same(followed(history, row, edition=2), {"a": 1, "b": 2})
        self.assertIsNone(followed(history, row, edition=3))
        self.assertIsNone(followed(history, row))
        self.same(barred_at(history, row), 3)
        self.assertIsNone(barred_at(history, (1, ((0, 1), (1, 1)))))
        self.same(followed(history, (1, ((0, 1), (1, 1)))), {"a": 1})
        self.same(barred_at(history, (2, ((0, 1), (1, 2)))), 3)

    def test_a_fill_ahead_of_a_bar(self):
        history = History([Column("a", 3)], [("fill", "a", 2), ("greatest", "a", 1, "refuse")])
        self.same(barred_at(history, (0, ((0, None),))), 2)
        self.assertIsNone(barred_at(history, (1, ((0, None),))))
        self.same(followed(history, (0, ((0, 1),))), {"a": 1})

    def test_a_name_that_is_used_anew(self):
        history = History([Column("a", 3), Column("b", 1)], [("drop", "a"), ("add", "a", 2, 1), ("greatest", "a", 1, "none")])
        self.same(followed(history, (0, ((0, 3), (1, 0)))), {"b": 0, "a": 1})
        self.same(followed(history, (2, ((1, 0), (2, 2)))), {"b": 0, "a": None})

    def test_what_is_told_is_new(self):
        row = (8, ((0, 1), (2, None)))
        followed(HISTORY, row).clear()
        self.same(followed(HISTORY, row), {"a": 1, "b": None})

    def test_no_row(self):
        for row in NO_ROWS:
            self.fails(BadRow, row, followed, HISTORY, row)
            self.fails(BadRow, row, followed, HISTORY, row, edition=True)
            self.fails(BadRow, row, barred_at, HISTORY, row)

    def test_no_edition(self):
        for edition in NO_EDITIONS:
            self.fails(BadEdition, edition, followed, HISTORY, GOOD[0], edition=edition)
        for edition in [0, 1, 2]:
            self.fails(BadEdition, edition, followed, HISTORY, (3, ((0, 2), (2, 2))), edition=edition)
        self.fails(BadEdition, 7, followed, HISTORY, (8, ((0, 1), (2, 1))), edition=7)


class AllStored(Case):

    def test_order(self):
        history = History([Column("a", 1), Column("b", 2)], [("drop", "a"), ("add", "c", 1, 0)])
        self.assertEqual(list(all_stored(history, 0)), [
            (0, ((0, None), (1, None))), (0, ((0, None), (1, 0))), (0, ((0, None), (1, 1))), (0, ((0, None), (1, 2))),
            (0, ((0, 0), (1, None))), (0, ((0, 0), (1, 0))), (0, ((0, 0), (1, 1))), (0, ((0, 0), (1, 2))),
            (0, ((0, 1), (1, None))), (0, ((0, 1), (1, 0))), (0, ((0, 1), (1, 1))), (0, ((0, 1), (1, 2)))])
        self.assertEqual(list(all_stored(history, 1)), [(1, ((1, value),)) for value in [None, 0, 1, 2]])
        present = [(2, ((1, one), (2, other))) for one in [None, 0, 1, 2] for other in [None, 0, 1]]
        self.assertEqual(list(all_stored(history, 2)), present)
        self.assertEqual(list(all_stored(history, None)), present)

    def test_is_a_generator(self):
        self.assertTrue(inspect.isgeneratorfunction(all_stored))
        self.assertIs(next(all_stored(HISTORY, 0))[0], 0)

    def test_no_edition_at_the_first_step(self):
        for edition in NO_EDITIONS:
            rows = all_stored(HISTORY, edition)
            self.fails(BadEdition, edition, next, rows)
        huge = History([Column(name, 99) for name in "abcdef"])
        self.fails(BadEdition, 1, next, all_stored(huge, 1))

    def test_too_many_at_the_first_step(self):
        # 8 by 50 by 50 rows are just as many as the limit lets, and 101 by 101 by 3 are more.
        history = History([Column("a", 6), Column("b", 48), Column("c", 48)], [("greatest", "a", 7, "cut")])
        rows = list(all_stored(history.up_to(0).then(("fill", "a", 0)), 0))
        self.assertEqual(len(rows), 8 * 50 * 50)
        self.assertEqual(rows[-1], (0, ((0, 6), (1, 48), (2, 48))))
        self.assertEqual(len(set(rows)), len(rows))
        for edition in [1, None]:
            found = all_stored(history, edition)
            self.fails(TooMany, 20000, next, found)
        for columns in [[Column("a", 99), Column("b", 99), Column("c", 1)], [Column(name, 99) for name in "abcdef"],
                        [Column(name, 4) for name in "abcdef"]]:
            self.fails(TooMany, 20000, next, all_stored(History(columns), 0))
        self.assertEqual(len(list(all_stored(History([Column("a", 99), Column("b", 99)]), 0))), 101 * 101)


class Example(Case):

    def test_of_the_document(self):
        history = History([Column("a", 2, 0), Column("z", 1, 0)],
                          [("greatest", "a", 1, "cut"), ("greatest", "a", 2, "cut")])
        row = store(history, {"a": 2}, edition=0)
        self.same([row, followed(history, row)], [(0, ((0, 2), (1, 0))), {"a": 1, "z": 0}])

    def test_by_name(self):
        row = (0, ((0, 2), (1, 1)))
        self.truth(is_stored(value=row, history=HISTORY), True)
        self.same(store(edition=0, told={"a": 2, "b": 1}, history=HISTORY), row)
        self.same(stored_value(number=1, row=row), 1)
        self.same(followed(edition=1, row=row, history=HISTORY), {"a": 2, "b": 1, "c": 2})
        self.same(barred_at(row=row, history=HISTORY), 8)
        self.same(next(all_stored(edition=1, history=HISTORY)), (1, ((0, None), (1, None), (2, None))))
        self.assertRaises(TypeError, store, HISTORY, {}, 0)
        self.assertRaises(TypeError, followed, HISTORY, row, 0)


if __name__ == "__main__":
    unittest.main()
