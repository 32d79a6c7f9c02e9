import itertools
import random
import unittest
from unittest import mock

from editionrows import orders
from editionrows.columns import Column
from editionrows.errors import BadChange, BadPart, TooMany
from editionrows.histories import History
from editionrows.likes import are_alike
from editionrows.orders import exchanged, exchanges, least_order, shortest
from tests import model
from tests.helpers import STRANGE, Case, history_of

COLUMNS = [Column("a", 3, 0), Column("b", 2, 1)]
KINDS = ["fill", "greatest", "default", "rename", "drop", "add"]


def like(changes):
    return History(COLUMNS, changes)


class Exchanged(Case):

    def check(self, first, second, can):
        for ahead, behind in [([], []), ([("fill", "b", 2)], [("default", "b", 0), ("fill", "b", 0)])]:
            history = like(ahead + [first, second] + behind)
            found = exchanged(history, len(ahead))
            if can:
                self.same(found, like(ahead + [second, first] + behind))
                self.same(exchanged(found, len(ahead)), history)
            else:
                self.assertIsNone(found)

    def test_of_other_columns(self):
        changes = [("fill", "a", 1), ("greatest", "a", 2, "cut"), ("greatest", "a", 1, "refuse"), ("default", "a", 2),
                   ("rename", "a", "c"), ("drop", "a"), ("greatest", "a", 5, "none")]
        others = [("fill", "b", 1), ("greatest", "b", 1, "none"), ("default", "b", None), ("rename", "b", "d"),
                  ("add", "d", 4, 2), ("greatest", "b", 1, "refuse")]
        for first, second in itertools.product(changes, others):
            history = History(COLUMNS, [first, second])
            self.same(exchanged(history, 0), History(COLUMNS, [second, first]))
            self.same(exchanged(History(COLUMNS, [second, first]), 0), history)

    def test_of_the_same_column(self):
        for first, second, can in [
            (("fill", "a", 1), ("fill", "a", 2), False), (("fill", "a", 1), ("fill", "a", 1), True),
            (("fill", "a", 1), ("greatest", "a", 2, "cut"), True), (("fill", "a", 3), ("greatest", "a", 2, "cut"), False),
            (("fill", "a", 1), ("greatest", "a", 2, "none"), False), (("fill", "a", 1), ("default", "a", 2), True),
            (("fill", "a", 3), ("greatest", "a", 2, "refuse"), False),
            (("fill", "a", 2), ("greatest", "a", 2, "refuse"), True),
            (("default", "a", 1), ("default", "a", 2), False), (("default", "a", 1), ("default", "a", 1), True),
            (("default", "a", 1), ("greatest", "a", 2, "cut"), True),
            (("default", "a", 3), ("greatest", "a", 2, "cut"), False),
            (("default", "a", 3), ("greatest", "a", 2, "none"), False),
            (("greatest", "a", 2, "cut"), ("greatest", "a", 1, "cut"), False),
            (("greatest", "a", 3, "cut"), ("greatest", "a", 2, "none"), False),
            (("greatest", "a", 3, "cut"), ("default", "a", 3), True),
            (("greatest", "a", 4, "cut"), ("default", "a", 4), False),
            (("greatest", "a", 4, "cut"), ("fill", "a", 4), False), (("greatest", "a", 4, "cut"), ("fill", "a", 3), True),
            (("rename", "a", "c"), ("rename", "c", "d"), False), (("rename", "a", "c"), ("fill", "c", 1), False),
            (("rename", "a", "c"), ("add", "a", 3, 0), False), (("fill", "a", 1), ("rename", "a", "c"), False),
            (("rename", "a", "c"), ("rename", "c", "a"), False), (("drop", "a"), ("add", "a", 3, 0), False),
            (("fill", "a", 1), ("drop", "a"), False), (("add", "c", 2, None), ("fill", "c", 1), False),
            (("add", "c", 2, 0), ("drop", "c"), False), (("add", "c", 2, 0), ("add", "d", 2, 0), True),
            (("add", "c", 2, 0), ("drop", "a"), True), (("greatest", "a", 2, "refuse"), ("drop", "a"), False),
        ]:
            self.check(first, second, can)

    def test_what_cannot_be_done_in_the_other_order(self):
        one = History([Column("a", 1)], [("add", "b", 1, 0), ("drop", "a")])
        self.assertIsNone(exchanged(one, 0))
        six = History([Column(name, 1) for name in "abcdef"], [("drop", "a"), ("add", "g", 1, 0)])
        self.assertIsNone(exchanged(six, 0))
        self.assertIsNone(exchanged(like([("rename", "a", "c"), ("rename", "b", "a")]), 0))

    def test_from_the_edition_ahead_of_them(self):
        # No row of the beginning has 3 there any more, but rows of edition 2 have it.
        ahead = [("greatest", "a", 2, "cut"), ("greatest", "a", 3, "cut")]
        first, second = ("greatest", "a", 2, "refuse"), ("greatest", "a", 2, "cut")
        self.truth(are_alike(like(ahead + [first, second]), like(ahead + [second, first])), True)
        self.assertIsNone(exchanged(like(ahead + [first, second]), 2))
        self.assertIsNone(exchanged(like(ahead + [second, first]), 2))
        # Rows of the edition between them are not looked at: behind the first change there are some with 4.
        first, second = ("greatest", "a", 4, "cut"), ("fill", "a", 3)
        self.same(exchanged(like([first, second]), 0), like([second, first]))

    def test_all_others_stay(self):
        history = like([("add", "c", 1, 0), ("add", "d", 1, 1), ("rename", "c", "e"), ("drop", "d"), ("fill", "e", 1)])
        found = exchanged(history, 0)
        self.same(found.changes_told(), [("add", "d", 1, 1), ("add", "c", 1, 0)] + history.changes_told()[2:])
        self.same([column.name for column in found.columns(2)], ["a", "b", "d", "c"])

    def test_errors(self):
        history = like([("fill", "a", 1), ("fill", "b", 1), ("fill", "a", 2)])
        for value in STRANGE + [None, -1, -2, 2, 3, 100, "0"]:
            self.fails(BadChange, value, exchanged, history, value)
        for changes in [[], [("fill", "a", 1)]]:
            self.fails(BadChange, 0, exchanged, like(changes), 0)
            self.same(exchanges(like(changes)), [])


class Model(Case):
    """Against all rows of the edition ahead of the two changes."""

    def wanted(self, first, changes, there, index):
        ahead = [(name, number, greatest, default) for number, (name, _, greatest, default) in enumerate(there[index])]
        both = [changes[index + 1], changes[index]]
        if model.editions(ahead, both) is None:
            return False
        return not model.differences(ahead, both[::-1], both)

    def check(self, first, changes, there):
        history = history_of(first, changes)
        can = [index for index in range(len(changes) - 1) if self.wanted(first, changes, there, index)]
        found = exchanges(history)
        self.same(found, can)
        for index in range(len(changes) - 1):
            if index in can:
                self.same(exchanged(history, index), history_of(
                    first, changes[:index] + [changes[index + 1], changes[index]] + changes[index + 2:]))
            else:
                self.assertIsNone(exchanged(history, index))
        found.clear()
        self.same(exchanges(history), can)
        self.same(least_order(history), history_of(first, self.ordered(first, changes)))

    def ordered(self, first, changes):
        while True:
            there = model.editions(first, changes)
            for index in range(len(changes) - 1):
                kinds = [KINDS.index(change[0]) for change in changes[index:index + 2]]
                if kinds[0] > kinds[1] and self.wanted(first, changes, there, index):
                    changes = changes[:index] + [changes[index + 1], changes[index]] + changes[index + 2:]
                    break
            else:
                return changes

    def test_drawn_histories(self):
        chance = random.Random(38)
        for _ in range(120):
            first, changes, there = model.drawn_history(chance, chance.randint(0, 8), 2)
            with self.subTest(first=first, changes=changes):
                self.check(first, changes, there)

    def test_small_histories(self):
        for most, step in [(0, 1), (1, 1), (2, 1), (3, 31)]:
            for first, changes, there in model.small_histories(most, step):
                with self.subTest(first=first, changes=changes):
                    self.check(first, changes, there)


class Ordered(Case):

    def test_by_hand(self):
        history = like([("add", "c", 1, 0), ("drop", "b"), ("rename", "a", "b"), ("default", "b", 2),
                        ("greatest", "b", 2, "cut"), ("fill", "b", 1)])
        self.same(least_order(history).changes_told(), [
            ("drop", "b"), ("rename", "a", "b"), ("fill", "b", 1), ("greatest", "b", 2, "cut"), ("default", "b", 2),
            ("add", "c", 1, 0)])
        history = like([("add", "c", 1, 0), ("drop", "b"), ("rename", "a", "e"), ("default", "e", 2), ("fill", "e", 0)])
        self.same(least_order(history).changes_told(), [
            ("rename", "a", "e"), ("fill", "e", 0), ("default", "e", 2), ("drop", "b"), ("add", "c", 1, 0)])
        for changes in [[], [("add", "c", 1, 0)], [("fill", "a", 1), ("fill", "a", 2)], [("add", "c", 1, 0), ("drop", "c")]]:
            self.same(least_order(like(changes)), like(changes))

    def test_equal_kinds_stay(self):
        history = like([("default", "b", 0), ("default", "a", 1), ("fill", "b", 0), ("fill", "a", 1), ("default", "b", 1)])
        self.same(least_order(history).changes_told(), [
            ("fill", "b", 0), ("fill", "a", 1), ("default", "b", 0), ("default", "a", 1), ("default", "b", 1)])

    def test_forty_changes(self):
        changes = [("default", "a", 1)] * 20 + [("fill", "b", 1)] * 20
        self.same(least_order(like(changes)), like(changes[::-1]))


def names_and_numbers(first, changes, more_names, more_numbers):
    """The names of both ends and some others, and a number above the greatest values there."""
    columns = first + model.editions(first, changes)[-1]
    names = {column[0] for column in columns}
    others = [name for name in "klmn" if name not in names][:more_names]
    return sorted(names) + others, max(column[2] for column in columns) + more_numbers


def all_changes(names, most):
    """All changes of some names with numbers up to one."""
    found = [("drop", name) for name in names] + [("rename", *pair) for pair in itertools.permutations(names, 2)]
    for name, greatest in itertools.product(names, range(1, most + 1)):
        found += [("add", name, greatest, default) for default in model.values_of(greatest)]
        found += [("greatest", name, greatest, way) for way in ["cut", "none", "refuse"]]
    for name, value in itertools.product(names, model.values_of(most)):
        found += [("default", name, value)] + [("fill", name, value)] * (value is not None)
    return found


class Shortest(Case):

    def check_result(self, first, changes, most):
        """How many changes the shortest one has, or None."""
        history = history_of(first, changes)
        found = shortest(history, most=most)
        if found is None:
            return None
        self.assertLessEqual(len(found), most)
        self.assertEqual(found.first_columns(), history.first_columns())
        self.assertEqual(model.differences(first, changes, found.changes_told()), set())
        return len(found)

    def measured(self, first, changes, longest, more_names=1, more_numbers=1):
        """The length of a shortest alike history among all with so many changes, or None."""
        names, most = names_and_numbers(first, changes, more_names, more_numbers)
        wanted = model.ending(first, changes)
        told = all_changes(names, most)
        level = [[]]
        known = set()
        for many in range(longest + 1):
            behind = []
            for done in level:
                key = model.ending(first, done)
                if key == wanted:
                    return many
                if key not in known:
                    known.add(key)
                    behind.append(done)
            if many < longest:
                level = [done + [change] for done in behind for change in told
                         if model.editions(first, done + [change]) is not None]
        return None

    def check(self, first, changes, longest, *more):
        wanted = self.measured(first, changes, longest, *more)
        for most in range(longest + 1):
            found = self.check_result(first, changes, most)
            self.assertEqual(found, wanted if wanted is not None and wanted <= most else None)
        return wanted

    def test_up_to_one(self):
        chance = random.Random(39)
        found = set()
        for _ in range(60):
            first, changes, _ = model.drawn_history(chance, chance.randint(0, 3), 2)
            with self.subTest(first=first, changes=changes):
                found.add(self.check(first, changes, 1, 2, 2))
        self.assertEqual(found, {None, 0, 1})

    def test_up_to_two(self):
        # More names and numbers than it is said to be enough to look at.
        chance = random.Random(40)
        found = set()
        for _ in range(40):
            first, changes, _ = model.drawn_history(chance, chance.randint(2, 5), 1, 2)
            with self.subTest(first=first, changes=changes):
                found.add(self.check(first, changes, 2, 2, 2))
        self.assertLessEqual({None, 2}, found)

    def test_up_to_three(self):
        chance = random.Random(41)
        found = set()
        for _ in range(12):
            first, changes = [("a", 0, 1, 0)], []
            while len(changes) < 5:
                change = model.any_change(chance, model.editions(first, changes)[-1], 1)
                if change[0] != "add" and model.editions(first, changes + [change]) is not None:
                    changes.append(change)
            with self.subTest(changes=changes):
                found.add(self.check(first, changes, 3))
        self.assertIn(3, found)

    def test_by_hand(self):
        columns = [Column("a", 2, 0), Column("b", 1, 1)]
        for changes, wanted in [
            ([], 0), ([("fill", "a", 1)], 1), ([("fill", "a", 1), ("fill", "a", 2)], 1),
            ([("default", "a", 1), ("default", "a", 0)], 0), ([("default", "a", 1), ("default", "a", None)], 1),
            ([("add", "c", 1, None), ("fill", "c", 1)], 2), ([("add", "c", 1, None), ("fill", "c", 1), ("default", "c", 1)], 1),
            ([("rename", "a", "c"), ("rename", "b", "a"), ("rename", "c", "b")], 3),
            ([("rename", "a", "c"), ("rename", "c", "d"), ("rename", "d", "e")], 1),
            ([("greatest", "a", 3, "cut"), ("greatest", "a", 1, "cut")], 1),
            ([("add", "c", 1, 0), ("drop", "c")] * 20, 0),
            # Edition 0 is dead, and a column that was added tells so.
            ([("add", "c", 2, 2), ("default", "c", 0), ("greatest", "c", 1, "refuse")], 3),
            ([("fill", "a", 1), ("fill", "b", 1), ("default", "a", 1), ("default", "b", 0)], 4),
        ]:
            history = History(columns, changes)
            for most in range(4):
                found = shortest(history, most=most)
                if wanted > most:
                    self.assertIsNone(found)
                else:
                    self.assertEqual(len(found), wanted)
                    self.truth(are_alike(history, found), True)
            found = shortest(history)
            self.assertEqual(None if found is None else len(found), wanted if wanted <= 2 else None)

    def test_columns_that_are_alike_but_for_their_names(self):
        history = History([Column("a", 1), Column("b", 1)], [("rename", "a", "c"), ("rename", "b", "a"), ("rename", "c", "b")])
        for most in range(3):
            self.assertIsNone(shortest(history, most=most))
        self.assertEqual(len(shortest(history, most=3)), 3)
        self.same(shortest(history.then(("rename", "a", "c")).then(("rename", "b", "a")).then(("rename", "c", "b"))),
                  History(history.first_columns()))

    def test_numbers_above(self):
        first = [("a", 0, 1, 0)]
        changes = [("add", "c", 2, 2), ("default", "c", 0), ("greatest", "c", 1, "refuse")]
        self.assertEqual(self.check(first, changes, 3), 3)
        # Whatever is done to the rows of a dead edition, it stays so.
        longer = changes + [("fill", "a", 1), ("greatest", "a", 2, "cut"), ("greatest", "a", 1, "none")]
        self.assertEqual(self.check_result(first, longer, 3), 3)
        self.assertEqual(len(shortest(History([Column("a", 99)], [("greatest", "a", 98, "cut")]))), 1)

    def test_most(self):
        for value in STRANGE + [None, -1, 4, 100, "2"]:
            self.fails(BadPart, "most", shortest, like([]), most=value)
        wide = History([Column(name, 99) for name in "abcdef"], [("fill", name, 1) for name in "abc"])
        self.fails(BadPart, "most", shortest, wide, most=4)

    def test_too_many(self):
        wide = History([Column(name, 99) for name in "abcdef"], [("fill", name, 1) for name in "abc"])
        for most in [2, 3]:
            self.fails(TooMany, 20000, shortest, wide, most=most)
        self.fails(TooMany, 20000, shortest, wide)
        self.assertIsNone(shortest(wide, most=0))
        changes = [("fill", "a", 0), ("fill", "b", 0), ("default", "a", 1), ("default", "b", 0)]
        many = orders.Search(like(changes))
        for _ in range(2):
            many.go_on()
        with mock.patch.object(orders, "MOST_LOOKED", len(many.looked)):
            self.assertIsNone(shortest(like(changes)))
        with mock.patch.object(orders, "MOST_LOOKED", len(many.looked) - 1):
            self.fails(TooMany, len(many.looked) - 1, shortest, like(changes))

    def test_what_two_states_have_in_common(self):
        """The keys of a search are equal exactly if the histories are alike."""
        chance = random.Random(42)
        alike = 0
        for first, step in itertools.product(model.FIRSTS, [1, 2]):
            told = [changes for other, changes, _ in model.small_histories(step + 1, 1 + 60 * step) if other == first]
            for _ in range(300):
                both = [chance.choice(told) for _ in range(2)]
                histories = [history_of(first, changes) for changes in both]
                keys = [orders.Search(history).wanted for history in histories]
                self.assertEqual(keys[0] == keys[1], are_alike(*histories))
                alike += keys[0] == keys[1]
        self.assertGreater(alike, 20)


class Example(Case):

    def test_by_name(self):
        history = like([("fill", "b", 2), ("fill", "a", 1)])
        self.same(exchanged(index=0, history=history), like([("fill", "a", 1), ("fill", "b", 2)]))
        self.same(exchanges(history=history), [0])
        self.same(least_order(history=history), history)
        self.assertIsNone(shortest(most=1, history=history))


if __name__ == "__main__":
    unittest.main()
