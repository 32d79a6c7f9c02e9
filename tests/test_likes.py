import itertools
import random
import unittest

from editionrows.columns import Column
from editionrows.errors import BadPart
from editionrows.histories import History
from editionrows.likes import are_alike, is_unlike, unlike
from tests import model
from tests.helpers import STRANGE, Case, history_of

FIRST = [("a", 0, 2, 0), ("b", 1, 1, 1)]
COLUMNS = [Column("a", 2, 0), Column("b", 1, 1)]


def like(changes):
    return History(COLUMNS, changes)


PLAIN = like([])
FILLED = like([("fill", "a", 1)])
BARRED = like([("greatest", "a", 1, "refuse"), ("greatest", "a", 2, "cut")])
DEAD = [("add", "c", 2, 2), ("default", "c", 0), ("greatest", "c", 1, "refuse")]


class Told(Case):

    def check(self, one, other, wanted):
        for first, second in [(one, other), (other, one)]:
            found = unlike(first, second)
            self.same(found, wanted) if wanted is None else self.assertEqual(found[0], wanted)
            self.truth(are_alike(first, second), wanted is None)
            if wanted is not None:
                self.assertIs(type(found), tuple)
                self.truth(is_unlike(first, second, found), True)

    def test_alike(self):
        for one, other in [
            (PLAIN, PLAIN), (PLAIN, History(COLUMNS)), (FILLED, like([("fill", "a", 1), ("fill", "a", 2)])),
            (PLAIN, like([("default", "a", 1), ("default", "a", 0)])), (PLAIN, like([("greatest", "a", 2, "refuse")])),
            (PLAIN, like([("rename", "a", "c"), ("rename", "c", "a")])),
            (PLAIN, like([("add", "c", 5, 5), ("drop", "c")])), (PLAIN, like([("greatest", "a", 3, "cut")]
                                                                             + [("greatest", "a", 2, "none")])),
            (like([("add", "c", 1, 0), ("drop", "b"), ("rename", "a", "b")]),
             like([("drop", "b"), ("rename", "a", "b"), ("add", "c", 1, 1), ("greatest", "c", 2, "cut")]
                  + [("drop", "c"), ("add", "c", 1, 0)])),
            (like([("add", "c", 1, None), ("fill", "c", 1)]), like([("add", "c", 1, 1), ("default", "c", None)])),
            (like([("add", "c", 1, 0), ("add", "d", 1, 1)]), like([("add", "d", 1, 1), ("add", "c", 1, 0)])),
            (like(DEAD + [("drop", "c")]), like(DEAD + [("fill", "a", 1), ("drop", "c"), ("greatest", "a", 1, "none")]
                                                + [("greatest", "a", 2, "cut")])),
        ]:
            self.check(one, other, None)

    def test_columns(self):
        for other in [like([("default", "a", None)]), like([("default", "a", 1)]), like([("greatest", "a", 3, "cut")]),
                      like([("drop", "b")]), like([("add", "c", 1, 0)]), like([("rename", "a", "c")])]:
            self.check(PLAIN, other, "column")
            self.check(FILLED, other, "column")
        self.same(unlike(PLAIN, like([("default", "b", 0)])), ("column", "b"))
        self.same(unlike(PLAIN, like([("add", "c", 1, 0)])), ("column", "c"))
        self.same(unlike(like([("add", "c", 1, 0)]), PLAIN), ("column", "c"))

    def test_rows(self):
        self.check(PLAIN, BARRED, "row")
        self.same(unlike(PLAIN, BARRED), ("row", (0, ((0, 2), (1, 0)))))
        # The column whose values bar the rows is dropped later.
        dropped = like([("drop", "a")])
        self.check(dropped, like([("greatest", "a", 1, "refuse"), ("drop", "a")]), "row")
        self.check(PLAIN, like(DEAD + [("drop", "c")]), "row")
        self.check(FILLED, like(DEAD + [("drop", "c")]), "row")

    def test_reads(self):
        self.check(PLAIN, FILLED, "read")
        self.same(unlike(PLAIN, FILLED), ("read", (0, ((0, None), (1, 0))), "a"))
        self.check(FILLED, like([("fill", "a", 2)]), "read")
        self.check(like([("greatest", "a", 1, "cut")]), like([("greatest", "a", 1, "none")]), "read")
        self.check(like([("add", "c", 1, 0)]), like([("add", "c", 1, 1), ("default", "c", 0)]), "read")
        self.check(like([("add", "c", 1, 0)]), like([("add", "c", 1, None), ("default", "c", 0)]), "read")

    def test_other_columns_of_the_same_names(self):
        anew = like([("drop", "a"), ("add", "a", 2, 0)])
        self.check(PLAIN, anew, "read")
        self.check(anew, like([("add", "c", 2, 0), ("drop", "a"), ("rename", "c", "a")]), None)
        first = History([Column("a", 2), Column("b", 2)])
        about = History([Column("a", 2), Column("b", 2)], [("rename", "a", "c"), ("rename", "b", "a"), ("rename", "c", "b")])
        self.check(first, about, "read")
        row, name = unlike(first, about)[1:]
        self.assertIn(name, "ab")
        self.assertNotEqual(row[1][0][1], row[1][1][1])
        self.check(about, History(first.first_columns(), [("rename", "b", "c"), ("rename", "a", "b"), ("rename", "c", "a")]),
                   None)

    def test_errors(self):
        for value in STRANGE + [None, 0, COLUMNS, History]:
            for call in [unlike, are_alike, lambda one, other: is_unlike(one, other, None)]:
                self.fails(BadPart, "one", call, value, PLAIN)
                self.fails(BadPart, "one", call, value, value)
                self.fails(BadPart, "other", call, PLAIN, value)

    def test_other_columns_at_the_beginning(self):
        for columns in [[Column("a", 2, 0)], COLUMNS[::-1], [Column("a", 2, 1), COLUMNS[1]], [Column("a", 3, 0), COLUMNS[1]],
                        [Column("c", 2, 0), COLUMNS[1]], COLUMNS + [Column("c", 1, 0)]]:
            for call in [unlike, are_alike, lambda one, other: is_unlike(one, other, ("column", "a"))]:
                self.fails(BadPart, "other", call, PLAIN, History(columns))
        # The numbers are those of their places, whatever they had.
        self.truth(are_alike(PLAIN, History([Column("a", 2, 0, number=7), Column("b", 1, 1, number=3)])), True)


class Shown(Case):

    def test_by_hand(self):
        row, barred = (0, ((0, None), (1, 0))), (0, ((0, 2), (1, None)))
        for one, other, value in [
            (PLAIN, like([("add", "c", 1, 0)]), ("column", "c")), (PLAIN, like([("rename", "a", "c")]), ("column", "a")),
            (PLAIN, like([("rename", "a", "c")]), ("column", "c")), (PLAIN, BARRED, ("row", barred)),
            (PLAIN, FILLED, ("read", row, "a")),
            # A read is told even where a column is unlike, too.
            (PLAIN, like([("fill", "a", 1), ("default", "a", 2)]), ("read", row, "a")),
        ]:
            self.truth(is_unlike(one, other, value), True)
            self.truth(is_unlike(other, one, value), True)
            self.truth(is_unlike(one, one, value), False)
            self.truth(is_unlike(other, other, value), False)
            self.truth(is_unlike(one, other, list(value)), False)
            for index in range(len(value)):
                for strange in STRANGE + [None, 0, "z", "reads"]:
                    self.truth(is_unlike(one, other, value[:index] + (strange,) + value[index + 1:]), False)
            self.truth(is_unlike(one, other, value + (None,)), False)
            self.truth(is_unlike(one, other, value[:-1]), False)

    def test_any_value(self):
        for value in STRANGE + [None, 0, "column", ("column",), ("row",), ("read",), ("read", (0, ((0, None), (1, 0)))),
                                ("column", "b"), ("column", "c"), ("column", ["a"]), ("column", ("a",)), ["column", "a"],
                                ("row", "a"), ("column", (0, ((0, None), (1, 0))))]:
            self.truth(is_unlike(PLAIN, FILLED, value), False)
            self.truth(is_unlike(PLAIN, BARRED, value), False)

    def test_rows_that_show_nothing(self):
        good, longer = (0, ((0, None), (1, 0))), like([("greatest", "b", 2, "cut"), ("fill", "a", 1)])
        for row in STRANGE + [None, (0, ((0, 3), (1, 0))), (0, ((0, None),)), (0, ((1, 0), (0, None))), [0, good[1]],
                              (0, list(good[1])), (1, good[1]), (False, good[1]), (2, good[1]), (0, ((0, 0), (1, 0)))]:
            self.truth(is_unlike(PLAIN, FILLED, ("read", row, "a")), False)
            self.truth(is_unlike(longer, PLAIN, ("read", row, "a")), False)
            self.truth(is_unlike(PLAIN, BARRED, ("row", row)), False)
        self.truth(is_unlike(longer, PLAIN, ("read", good, "a")), True)
        # Names: of no column, of another one, of one history alone.
        more = like([("fill", "a", 1), ("add", "c", 1, 0)])
        for name in ["b", "c", "d", "A", "", None, 0, ("a",), ["a"], b"a"]:
            self.truth(is_unlike(PLAIN, more, ("read", good, name)), False)
        self.truth(is_unlike(PLAIN, more, ("read", good, "a")), True)
        # A row that is barred in one shows nothing by what is read.
        barred = like([("greatest", "a", 1, "refuse"), ("greatest", "a", 2, "cut"), ("fill", "a", 1)])
        self.truth(is_unlike(PLAIN, barred, ("read", (0, ((0, 2), (1, 0))), "a")), False)
        self.truth(is_unlike(PLAIN, barred, ("row", (0, ((0, 2), (1, 0))))), True)
        self.truth(is_unlike(PLAIN, barred, ("read", good, "a")), True)
        self.truth(is_unlike(PLAIN, barred, ("row", good)), False)


class Model(Case):
    """Against all rows of edition 0."""

    def check(self, first, one, other):
        histories = history_of(first, one), history_of(first, other)
        wanted = model.differences(first, one, other)
        found = unlike(*histories)
        self.truth(are_alike(*histories), not wanted)
        if wanted:
            self.assertIn(found, wanted)
        else:
            self.assertIsNone(found)
        rows = [model.stored_of(first, 0, row) for row in model.rows_of(first)]
        told = [("column", name) for name in "abcdz"] + [("row", row) for row in rows]
        for value in told + [("read", row, name) for row in rows for name in "abcdz"]:
            self.truth(is_unlike(*histories, value), value in wanted, value)
        return not wanted

    def test_small_histories(self):
        chance = random.Random(34)
        many = 0
        told = {0: [], 1: []}
        for most, step in [(0, 1), (1, 1), (2, 5), (3, 61)]:
            for first, changes, _ in model.small_histories(most, step):
                told[model.FIRSTS.index(first)].append(changes)
        for at, first in enumerate(model.FIRSTS):
            for one in told[at]:
                for other in chance.sample(told[at], 3):
                    many += self.check(first, one, other)
        self.assertGreater(many, 10)

    def test_drawn_histories(self):
        chance = random.Random(35)
        alike = 0
        for _ in range(250):
            first, one, _ = model.drawn_history(chance, chance.randint(0, 4), 2)
            other = list(one)
            for _ in range(chance.randint(1, 2)):
                while True:
                    at = chance.randint(0, len(other))
                    change = model.any_change(chance, first + [("c", 9, 1, 0)], 2)
                    changed = other[:at] + [change] + other[at + chance.randint(0, 1):]
                    if model.editions(first, changed) is not None:
                        break
                other = changed
            with self.subTest(first=first, one=one, other=other):
                alike += self.check(first, one, other)
        self.assertGreater(alike, 30)

    def test_orders_of_the_same_changes(self):
        chance = random.Random(36)
        for _ in range(60):
            first, changes, _ = model.drawn_history(chance, 3, 2)
            for other in itertools.permutations(changes):
                if model.editions(first, list(other)) is not None:
                    self.check(first, changes, list(other))


class Later(Case):

    def test_each_further_change(self):
        """Alike histories stay alike behind each change, and what cannot be done to one cannot to the other."""
        chance = random.Random(37)
        many = 0
        for _ in range(400):
            first, one, _ = model.drawn_history(chance, 2, 2)
            other = one[::-1]
            if model.editions(first, other) is None or model.differences(first, one, other):
                continue
            many += 1
            for _ in range(8):
                change = model.any_change(chance, first + [("c", 9, 1, 0)], 2)
                both = [model.editions(first, changes + [change]) is not None for changes in (one, other)]
                self.assertEqual(both[0], both[1])
                if both[0]:
                    one, other = one + [change], other + [change]
                    self.truth(are_alike(history_of(first, one), history_of(first, other)), True)
        self.assertGreater(many, 100)


class Wide(Case):

    def test_more_rows_than_can_be_gone_through(self):
        columns = [Column(name, 99, 0) for name in "abcdef"]
        one = History(columns, [("rename", "a", "z"), ("rename", "z", "a")])
        self.truth(are_alike(one, History(columns)), True)
        other = one.then(("fill", "f", 3))
        self.same(unlike(one, other), ("read", (0, tuple((number, None if number == 5 else 0) for number in range(6))), "f"))
        barred = one.then(("greatest", "c", 98, "refuse")).then(("greatest", "c", 99, "cut"))
        self.same(unlike(barred, one), ("row", (0, tuple((number, 99 if number == 2 else 0) for number in range(6)))))


class Example(Case):

    def test_by_name(self):
        self.same(unlike(other=FILLED, one=PLAIN), ("read", (0, ((0, None), (1, 0))), "a"))
        self.truth(are_alike(other=FILLED, one=PLAIN), False)
        self.truth(is_unlike(value=("column", "a"), other=FILLED, one=PLAIN), False)


if __name__ == "__main__":
    unittest.main()
