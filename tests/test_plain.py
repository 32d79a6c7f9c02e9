import unittest

from editionrows.columns import Column
from editionrows.errors import BadChange, BadPart, BadRow, BadValue, CannotBe, TooMany, UnknownName
from editionrows.histories import History
from editionrows.plain import Plain
from tests.helpers import STRANGE, Case

HISTORY = History([Column("a", 5, 3), Column("b", 9)])
ROWS = [{"a": 5, "b": None}, {"a": None, "b": 0}, {"a": 2, "b": 9}]


def behind(change, rows=ROWS, history=HISTORY):
    return Plain(history, rows).changed(change).rows()


class Making(Case):

    def test_parts(self):
        plain = Plain(HISTORY, ROWS)
        self.assertIs(plain.history, HISTORY)
        self.same(plain.rows(), ROWS)
        self.assertEqual(len(plain), 3)
        self.same(Plain(HISTORY).rows(), [])
        self.assertEqual(len(Plain(HISTORY)), 0)
        self.same(Plain(HISTORY, tuple(ROWS)).rows(), ROWS)
        self.same(Plain(HISTORY, [{"b": 1, "a": 2}]).rows(), [{"a": 2, "b": 1}])

    def test_columns_are_those_of_the_present(self):
        history = HISTORY.then(("drop", "a")).then(("add", "c", 1, 0))
        self.same(Plain(history, [{"b": 1, "c": None}]).rows(), [{"b": 1, "c": None}])
        self.fails(BadRow, 0, Plain, history, ROWS)

    def test_no_history(self):
        for history in STRANGE + [None, HISTORY.columns(), 0, "history"]:
            self.fails(BadPart, "history", Plain, history)
            self.fails(BadPart, "history", Plain, history, None)
            self.fails(BadPart, "history", Plain, history, [None])

    def test_no_rows(self):
        for rows in [None, 0, True, "ab", {}, {0: ROWS[0]}, ROWS[0], object(), b""]:
            self.fails(BadRow, None, Plain, HISTORY, rows)

    def test_no_row(self):
        wrong = [None, 0, "a", [], (), [("a", 1), ("b", 1)], object(), {}, {"a": 1}, {"b": 1}, {"a": 1, "c": 1},
                 {"a": 1, "b": 1, "c": 1}, {"a": 1, "b": 1, None: 1}, {"a": 1, 0: 1}, {"a": 6, "b": 1}, {"a": -1, "b": 1},
                 {"a": 1, "b": 10}, {"a": True, "b": 1}, {"a": 1, "b": False}, {"a": "1", "b": 1}, {"a": [1], "b": 1},
                 {"a": "missing", "b": 1}, {"A": 1, "b": 1}]
        for row in wrong:
            self.fails(BadRow, 0, Plain, HISTORY, [row])
            self.fails(BadRow, 1, Plain, HISTORY, (ROWS[0], row, None))
            self.fails(BadRow, 3, Plain, HISTORY, ROWS + [row])

    def test_what_was_handed_in_may_be_spoilt(self):
        rows = [dict(row) for row in ROWS]
        plain = Plain(HISTORY, rows)
        self.assertEqual(rows, ROWS)
        rows[0]["a"] = 0
        rows[1].clear()
        rows.pop()
        self.same(plain.rows(), ROWS)
        self.assertEqual(len(plain), 3)

    def test_what_is_told_may_be_spoilt(self):
        plain = Plain(HISTORY, ROWS)
        plain.rows().clear()
        plain.rows()[0]["a"] = 0
        plain.rows()[1].clear()
        self.same(plain.rows(), ROWS)

    def test_equality(self):
        plain = Plain(HISTORY, ROWS)
        self.truth(plain == Plain(HISTORY, ROWS), True)
        self.truth(plain != Plain(HISTORY, ROWS), False)
        self.truth(plain == Plain(History(HISTORY.columns()), ROWS), True)
        self.truth(plain == Plain(HISTORY, ROWS[::-1]), False)
        self.truth(plain == Plain(HISTORY, ROWS[:2]), False)
        self.truth(plain == Plain(HISTORY, [dict(ROWS[0], a=4)] + ROWS[1:]), False)
        self.truth(plain == Plain(HISTORY.then(("fill", "a", 0)), ROWS), False)
        self.truth(plain == Plain(HISTORY.then(("default", "a", 0)), ROWS), False)
        for other in STRANGE + [None, HISTORY, ROWS]:
            self.truth(plain == other, False)


class Writing(Case):

    def test_written(self):
        plain = Plain(HISTORY, ROWS)
        self.same(plain.written({"a": 1, "b": 2}).rows(), ROWS + [{"a": 1, "b": 2}])
        self.same(plain.written({"b": 2}).rows(), ROWS + [{"a": 3, "b": 2}])
        self.same(plain.written({"a": None}).rows(), ROWS + [{"a": None, "b": None}])
        self.same(plain.written({}).rows(), ROWS + [{"a": 3, "b": None}])
        self.same(plain.rows(), ROWS)
        self.assertEqual(len(plain.written({})), 4)
        self.truth(plain.written({}) == Plain(HISTORY, ROWS + [{"a": 3, "b": None}]), True)

    def test_written_with_the_present_defaults(self):
        history = History([Column("a", 5, 3)], [("default", "a", 1), ("add", "b", 2, 2), ("rename", "a", "c")])
        self.same(Plain(history).written({}).rows(), [{"c": 1, "b": 2}])
        self.fails(UnknownName, "a", Plain(history).written, {"a": 1})

    def test_told_no_dict(self):
        for told in [None, 0, True, "a", [], (), [("a", 1)], object(), {"a"}]:
            self.fails(BadRow, told, Plain(HISTORY).written, told)

    def test_told_wrong(self):
        plain = Plain(HISTORY, ROWS)
        for name in ["c", "A", "", None, 0, True, ("a",), b"a", "missing", object()]:
            self.fails(UnknownName, name, plain.written, {name: 1})
            self.fails(UnknownName, name, plain.written, {"a": 1, name: True, "b": -1})
        for value in [True, False, -1, 6, 10, "1", [1], (1,), {}, "missing", object()]:
            self.fails(BadValue, "a", plain.written, {"a": value})
            self.fails(BadValue, "a", plain.written, {"b": 1, "a": value, "c": 1})
        self.fails(BadValue, "b", plain.written, {"a": 5, "b": 10})
        self.same(plain.rows(), ROWS)

    def test_first_wrong_entry(self):
        plain = Plain(HISTORY)
        self.fails(BadValue, "a", plain.written, {"a": 6, "c": 1})
        self.fails(UnknownName, "c", plain.written, {"c": 1, "a": 6})
        self.fails(BadValue, "b", plain.written, {"b": 10, "a": 6})
        self.fails(BadValue, "a", plain.written, {"a": 6, "b": 10})
        self.fails(UnknownName, "d", plain.written, {"a": 1, "d": 1, "c": 1})

    def test_told_stays(self):
        told = {"b": 2}
        plain = Plain(HISTORY).written(told)
        self.assertEqual(told, {"b": 2})
        told["b"] = 3
        self.same(plain.rows(), [{"a": 3, "b": 2}])


class Changing(Case):

    def test_add_and_drop(self):
        self.same(behind(("add", "c", 2, 1)), [dict(row, c=1) for row in ROWS])
        self.same(behind(("add", "c", 2, None)), [dict(row, c=None) for row in ROWS])
        self.same(behind(("drop", "a")), [{"b": None}, {"b": 0}, {"b": 9}])
        self.same(behind(("drop", "b")), [{"a": 5}, {"a": None}, {"a": 2}])

    def test_rename_and_default(self):
        self.same(behind(("rename", "a", "c")), [{"c": 5, "b": None}, {"c": None, "b": 0}, {"c": 2, "b": 9}])
        self.same(behind(("default", "a", 0)), ROWS)
        self.same(behind(("default", "b", 7)), ROWS)

    def test_fill(self):
        self.same(behind(("fill", "a", 4)), [ROWS[0], {"a": 4, "b": 0}, ROWS[2]])
        self.same(behind(("fill", "b", 0)), [{"a": 5, "b": 0}, ROWS[1], ROWS[2]])

    def test_greatest(self):
        self.same(behind(("greatest", "a", 4, "cut")), [{"a": 4, "b": None}] + ROWS[1:])
        self.same(behind(("greatest", "a", 1, "cut")), [{"a": 1, "b": None}, {"a": None, "b": 0}, {"a": 1, "b": 9}])
        self.same(behind(("greatest", "a", 4, "none")), [{"a": None, "b": None}] + ROWS[1:])
        self.same(behind(("greatest", "b", 8, "none")), ROWS[:2] + [{"a": 2, "b": None}])
        self.same(behind(("greatest", "b", 8, "cut")), ROWS[:2] + [{"a": 2, "b": 8}])
        for way in ["cut", "none", "refuse"]:
            self.same(behind(("greatest", "a", 5, way)), ROWS)
            self.same(behind(("greatest", "a", 9, way)), ROWS)
        self.same(behind(("greatest", "a", 3, "refuse"), ROWS[1:]), ROWS[1:])
        self.same(behind(("greatest", "b", 8, "refuse"), ROWS[:2]), ROWS[:2])

    def test_the_history_goes_along(self):
        for change in [("add", "c", 2, 1), ("drop", "a"), ("rename", "a", "c"), ("default", "a", 1), ("fill", "a", 4),
                       ("greatest", "a", 4, "cut")]:
            plain = Plain(HISTORY, ROWS)
            later = plain.changed(change)
            self.truth(later.history == HISTORY.then(change), True)
            self.assertIs(plain.history, HISTORY)
            self.same(plain.rows(), ROWS)

    def test_one_behind_the_other(self):
        plain = Plain(HISTORY).written({"a": 5, "b": 9})
        for change in [("greatest", "a", 4, "none"), ("add", "c", 3, 3), ("fill", "a", 1), ("greatest", "c", 2, "cut"),
                       ("drop", "b"), ("rename", "a", "b"), ("add", "a", 1, None), ("fill", "a", 1)]:
            plain = plain.changed(change)
        self.same(plain.rows(), [{"b": 1, "c": 2, "a": 1}])
        self.same(plain.written({}).rows(), [{"b": 1, "c": 2, "a": 1}, {"b": 3, "c": 2, "a": None}])

    def test_row(self):
        for plain in [Plain(HISTORY, ROWS), Plain(HISTORY, ROWS[1:] + ROWS[:1])]:
            for change in [("greatest", "a", 4, "refuse"), ("greatest", "a", 3, "refuse"), ("greatest", "b", 8, "refuse"),
                           ("greatest", "b", 1, "refuse")]:
                self.same(plain.why_not(change), "row")
                self.fails(CannotBe, "row", plain.changed, change)
                self.assertIsNone(Plain(HISTORY).why_not(change))
        # The default is told ahead of the row.
        self.same(Plain(HISTORY, ROWS).why_not(("greatest", "a", 2, "refuse")), "default")

    def test_words(self):
        plain = Plain(HISTORY, ROWS)
        for change, word in [(("drop", "c"), "unknown"), (("fill", "c", 1000), "unknown"), (("add", "a", 1, 2), "alive"),
                             (("rename", "a", "a"), "alive"), (("add", "c", 1, 2), "above"), (("fill", "a", 6), "above"),
                             (("default", "b", 10), "above"), (("greatest", "a", 1, "refuse"), "default")]:
            self.same(plain.why_not(change), word)
            self.fails(CannotBe, word, plain.changed, change)
        single = Plain(History([Column("a", 5)]), [{"a": 5}])
        self.same(single.why_not(("drop", "a")), "only")
        self.fails(CannotBe, "only", single.changed, ("drop", "a"))
        full = Plain(History([Column(name, 5) for name in "abcdef"]))
        self.same(full.why_not(("add", "g", 1, 0)), "many")
        self.fails(CannotBe, "many", full.changed, ("add", "g", 1, 0))
        for change in [("drop", "a"), ("add", "c", 1, 0), ("fill", "a", 5), ("greatest", "a", 1, "cut"),
                       ("greatest", "a", 5, "refuse"), ("rename", "a", "c"), ("default", "a", None)]:
            self.assertIsNone(plain.why_not(change))

    def test_no_change(self):
        full = Plain(History(HISTORY.columns(), [("fill", "a", 0)] * 40), ROWS)
        for plain in [Plain(HISTORY, ROWS), full]:
            for change in STRANGE + [None, ["drop", "a"], ("drop", "A"), ("greatest", "a", 0, "refuse")]:
                self.fails(BadChange, change, plain.why_not, change)
                self.fails(BadChange, change, plain.changed, change)

    def test_too_many(self):
        full = Plain(History(HISTORY.columns(), [("fill", "b", 0)] * 40), ROWS)
        self.fails(TooMany, 40, full.changed, ("fill", "b", 0))
        self.fails(CannotBe, "unknown", full.changed, ("drop", "c"))
        self.fails(CannotBe, "row", full.changed, ("greatest", "a", 4, "refuse"))
        self.assertIsNone(full.why_not(("fill", "b", 0)))
        last = Plain(History(HISTORY.columns(), [("fill", "b", 0)] * 39), ROWS)
        self.assertEqual(len(last.changed(("fill", "a", 0)).history), 40)

    def test_by_name(self):
        plain = Plain(rows=ROWS, history=HISTORY)
        self.same(plain.rows(), ROWS)
        self.assertEqual(len(plain.written(told={"a": 0})), 4)
        self.assertEqual(len(plain.changed(change=("drop", "a")).history), 1)
        self.same(plain.why_not(change=("drop", "c")), "unknown")


if __name__ == "__main__":
    unittest.main()
