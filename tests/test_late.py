import itertools
import random
import unittest

from editionrows.columns import Column
from editionrows.errors import BadEdition, BadRow, BadValue, UnknownName
from editionrows.histories import History
from editionrows.late import (fence, is_late_right, late_error, late_row, live_editions, meant, right_editions,
                              unlike_names)
from editionrows.stored import followed
from tests import model
from tests.helpers import STRANGE, Case, history_of

HISTORY = History([Column("a", 3, 0), Column("b", 2, 2)], [
    ("rename", "a", "c"),               # 1
    ("add", "a", 2, 1),                 # 2: number 2
    ("default", "b", 0),                # 3
    ("drop", "b"),                      # 4
    ("add", "b", 2, 0),                 # 5: number 3, another column of the name
    ("greatest", "c", 2, "refuse"),     # 6
    ("default", "b", 2),                # 7
    ("default", "b", 0),                # 8
    ("default", "a", None),             # 9
])
DEAD = History([Column("a", 2, 0)], [
    ("add", "b", 3, 2), ("default", "b", 0), ("greatest", "b", 1, "refuse"), ("default", "a", 1), ("rename", "a", "c"),
])
NO_EDITIONS = STRANGE + [None, -1, 10, 100, "0"]


class Rows(Case):

    def test_late_row(self):
        self.same(late_row(HISTORY, 0, {}), (0, ((0, 0), (1, 2))))
        self.same(late_row(HISTORY, 0, {"b": 1, "a": 3}), (0, ((0, 3), (1, 1))))
        self.same(late_row(HISTORY, 3, {"b": None}), (3, ((0, 0), (1, None), (2, 1))))
        self.same(late_row(HISTORY, 9, {"c": 1}), (9, ((0, 1), (2, None), (3, 0))))

    def test_meant(self):
        # a is now c; b of edition 0 is gone; the columns that it does not know have their present defaults.
        self.same(meant(HISTORY, 0, {"a": 2, "b": 1}), {"c": 2, "a": None, "b": 0})
        self.same(followed(HISTORY, late_row(HISTORY, 0, {"a": 2, "b": 1})), {"c": 2, "a": 1, "b": 0})
        self.same(meant(HISTORY, 2, {"a": 0}), {"c": 0, "a": 0, "b": 0})
        self.same(meant(HISTORY, 2, {}), {"c": 0, "a": None, "b": 0})
        self.assertEqual(list(meant(HISTORY, 2, {"b": 1, "a": 0})), ["c", "a", "b"])
        self.same(meant(HISTORY, 9, {"b": 1, "c": None}), {"c": None, "a": None, "b": 1})

    def test_what_is_told_goes_through_the_changes(self):
        history = History([Column("a", 3, 0)], [("greatest", "a", 2, "cut"), ("fill", "a", 1), ("default", "a", 2)])
        self.same(meant(history, 0, {"a": 3}), {"a": 2})
        self.same(meant(history, 0, {"a": None}), {"a": 1})
        self.same(meant(history, 0, {}), {"a": 2})

    def test_refused_rows(self):
        self.assertIsNone(meant(HISTORY, 0, {"a": 3}))
        self.assertIsNone(meant(HISTORY, 5, {"c": 3, "b": 1}))
        self.same(meant(HISTORY, 6, {"c": 2}), {"c": 2, "a": None, "b": 0})
        self.assertIsNone(meant(DEAD, 0, {}))
        self.assertIsNone(meant(DEAD, 1, {}))
        self.assertIsNone(meant(DEAD, 2, {"b": 3}))
        self.same(meant(DEAD, 1, {"b": 1}), {"c": 1, "b": 1})

    def test_what_is_told_is_kept(self):
        told = {"a": 2}
        meant(HISTORY, 0, told).clear()
        late_row(HISTORY, 0, told)
        self.assertEqual(told, {"a": 2})
        self.same(meant(HISTORY, 0, told), {"c": 2, "a": None, "b": 0})

    def test_errors(self):
        for call in [late_row, meant]:
            for edition in NO_EDITIONS:
                self.fails(BadEdition, edition, call, HISTORY, edition, {})
                self.fails(BadEdition, edition, call, HISTORY, edition, None)
            for told in [None, 0, True, "a", [], (), [("a", 1)], object(), {"a"}]:
                self.fails(BadRow, told, call, HISTORY, 0, told)
            for name in [None, 0, True, "c", "A", "", ("a",), b"a"]:
                self.fails(UnknownName, name, call, HISTORY, 0, {name: 0})
                self.fails(UnknownName, name, call, HISTORY, 0, {"a": 1, name: 9, "b": 9})
            for value in STRANGE + [-1, 4, "missing"]:
                self.fails(BadValue, "a", call, HISTORY, 0, {"a": value})
                self.fails(BadValue, "a", call, HISTORY, 0, {"b": 1, "a": value, "c": 0})


class Right(Case):

    def test_by_hand(self):
        # a is added with 1 and has no default now; b of number 3 with 0, which it has once more.
        self.same(unlike_names(HISTORY, 0), ["a"])
        self.same(unlike_names(HISTORY, 5), ["a"])
        self.same(unlike_names(HISTORY, 7), ["a", "b"])
        self.same(unlike_names(HISTORY, 8), ["a"])
        self.same(unlike_names(HISTORY, 9), [])
        self.same(right_editions(HISTORY), [9])
        for edition in range(9):
            self.truth(is_late_right(HISTORY, edition), False)
        self.truth(is_late_right(HISTORY, 9), True)
        self.assertIsNone(late_error(HISTORY, 9))

    def test_a_default_that_is_barred_cannot_be_left_untold(self):
        history = History([Column("a", 3, 3), Column("b", 3, 1)], [
            ("default", "a", 0), ("greatest", "a", 2, "refuse"), ("add", "c", 1, 0)])
        self.same(unlike_names(history, 0), [])
        self.truth(is_late_right(history, 0), True)
        history = history.then(("default", "c", 1))
        self.same(unlike_names(history, 0), ["c"])
        told, name = late_error(history, 0)
        self.same(name, "c")
        self.assertIsNotNone(meant(history, 0, told))
        history = History([Column("a", 2, 2), Column("b", 3, 1)], [
            ("default", "b", 0), ("default", "a", 1), ("greatest", "a", 1, "refuse")])
        self.same(unlike_names(history, 0), ["b"])
        told, name = late_error(history, 0)
        self.same(name, "b")
        self.assertEqual((meant(history, 0, told)["b"], followed(history, late_row(history, 0, told))["b"]), (0, 1))

    def test_dead_editions_are_right(self):
        self.same(right_editions(DEAD), [0, 4, 5])
        self.same(live_editions(DEAD), [1, 2, 3, 4, 5])
        self.same(unlike_names(DEAD, 0), [])
        self.assertIsNone(late_error(DEAD, 0))
        self.same(unlike_names(DEAD, 1), ["c"])
        self.same(unlike_names(DEAD, 2), ["c"])

    def test_fence(self):
        # The b that the first editions know has another default from 3 on; at 4 it is gone, and cannot be read unlike.
        self.same([fence(HISTORY, edition) for edition in range(10)], [3, 3, 3, 7, 7, 7, 7, 8, 9, None])
        self.same([fence(DEAD, edition) for edition in range(6)], [2, 2, 4, 4, None, None])
        history = History([Column("a", 1, 0)], [("default", "a", 1), ("default", "a", 0)])
        self.same([fence(history, edition) for edition in range(3)], [1, 2, None])
        self.same(right_editions(history), [0, 2])

    def test_what_is_told_is_new(self):
        for call in [right_editions, live_editions]:
            found = call(HISTORY)
            wanted = list(found)
            found.clear()
            self.same(call(HISTORY), wanted)
        unlike_names(HISTORY, 0).clear()
        self.same(unlike_names(HISTORY, 0), ["a"])
        late_error(HISTORY, 0)[0].clear()
        self.same(late_error(HISTORY, 0)[1], "a")

    def test_errors(self):
        for call in [is_late_right, late_error, unlike_names, fence]:
            for edition in NO_EDITIONS:
                self.fails(BadEdition, edition, call, HISTORY, edition)


def tellings(columns):
    """All that a writer can tell of some columns."""
    choices = [[None] + [(name, value) for value in model.values_of(greatest)] for name, _, greatest, _ in columns]
    for choice in itertools.product(*choices):
        yield dict(each for each in choice if each is not None)


def wanted_names(there, changes, edition):
    """The numbers of the columns that some telling leaves unlike to what is meant."""
    columns = there[edition]
    unlike = set()
    for told in tellings(columns):
        row = {name: told.get(name, default) for name, _, _, default in columns}
        trail = model.trail(there, changes, edition, row)
        if len(trail) == len(there) - edition:
            numbers = [number for name, number, _, _ in columns if name in told]
            unlike |= {name for name, number, _, default in there[-1]
                       if number not in numbers and trail[-1][name] != default}
    return [column[0] for column in there[-1] if column[0] in unlike]


class Model(Case):
    """Against all tellings."""

    def check_tellings(self, history, there, changes, edition):
        columns = there[edition]
        for told in tellings(columns):
            row = {name: told.get(name, default) for name, _, _, default in columns}
            self.same(late_row(history, edition, told), (edition, tuple((column[1], row[column[0]]) for column in columns)))
            trail = model.trail(there, changes, edition, row)
            if len(trail) < len(there) - edition:
                self.assertIsNone(meant(history, edition, told))
                continue
            numbers = [number for name, number, _, _ in columns if name in told]
            self.same(meant(history, edition, told),
                      {name: trail[-1][name] if number in numbers else default for name, number, _, default in there[-1]})

    def check(self, history, there, changes):
        right = []
        for edition in range(len(there)):
            self.check_tellings(history, there, changes, edition)
            names = wanted_names(there, changes, edition)
            self.same(unlike_names(history, edition), names)
            self.truth(is_late_right(history, edition), not names)
            found = late_error(history, edition)
            self.assertEqual(found is None, not names)
            if not names:
                right.append(edition)
            else:
                told, name = found
                self.assertIs(type(found), tuple)
                self.assertEqual(name, names[0])
                read = followed(history, late_row(history, edition, told))
                self.assertNotEqual(read[name], meant(history, edition, told)[name])
            wrong = [later for later in range(edition, len(there))
                     if wanted_names(there[:later + 1], changes[:later], edition)]
            self.assertEqual(fence(history, edition), wrong[0] if wrong else None)
        self.same(right_editions(history), right)
        self.same(live_editions(history), model.live(there, changes))

    def test_drawn_histories(self):
        chance = random.Random(22)
        for _ in range(120):
            first, changes, there = model.drawn_history(chance, chance.randint(0, 6), chance.choice([1, 2]))
            with self.subTest(first=first, changes=changes):
                self.check(history_of(first, changes), there, changes)

    def test_small_histories(self):
        for most, step in [(1, 1), (2, 13), (3, 211)]:
            for first, changes, there in model.small_histories(most, step):
                with self.subTest(first=first, changes=changes):
                    self.check(history_of(first, changes), there, changes)


class Example(Case):

    def test_by_name(self):
        self.same(late_row(told={}, edition=0, history=HISTORY), (0, ((0, 0), (1, 2))))
        self.same(meant(told={}, edition=9, history=HISTORY), {"c": 0, "a": None, "b": 0})
        self.truth(is_late_right(edition=0, history=HISTORY), False)
        self.same(late_error(edition=0, history=HISTORY)[1], "a")
        self.same(unlike_names(edition=0, history=HISTORY), ["a"])
        self.same(fence(edition=0, history=HISTORY), 3)
        self.same(right_editions(history=HISTORY), [9])
        self.same(live_editions(history=HISTORY), list(range(10)))


if __name__ == "__main__":
    unittest.main()
