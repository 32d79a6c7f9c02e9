import copy
import random
import unittest

from editionrows.columns import Column
from editionrows.errors import (BadChange, BadEdition, BadPart, BadRow, BadValue, CannotBe, NothingToUndo, TooMany,
                                UnknownName)
from editionrows.histories import History
from editionrows.live import Live
from editionrows.plain import Plain
from tests import model
from tests.helpers import STRANGE, Case, history_of

HISTORY = History([Column("a", 3, 0), Column("b", 2, 1)], [("default", "a", 1)])


def state(live):
    """All that a live table tells."""
    rows = [live.stored(index) for index in range(len(live))]
    reads = [live.read(index) for index in range(len(live))]
    return live.history, rows, reads, live.plain(), live.eldest(), live.steps()


class Steps(Case):

    def setUp(self):
        self.live = Live(HISTORY)

    def test_begun(self):
        self.same(self.live.history, HISTORY)
        self.assertEqual(len(self.live), 0)
        self.same(self.live.plain(), Plain(HISTORY))
        self.assertIsNone(self.live.eldest())
        self.same(self.live.steps(), 0)

    def test_write(self):
        self.same(self.live.write({"b": 2}), 0)
        self.same(self.live.write({}), 1)
        self.same(self.live.stored(0), (1, ((0, 1), (1, 2))))
        self.same(self.live.stored(1), (1, ((0, 1), (1, 1))))
        self.same(self.live.read(0), {"a": 1, "b": 2})
        self.same(self.live.eldest(), 1)
        self.same(self.live.steps(), 2)

    def test_write_late(self):
        self.same(self.live.write_late(0, {"b": 2}), 0)
        self.same(self.live.write_late(1, {"b": 2}), 1)
        self.same(self.live.stored(0), (0, ((0, 0), (1, 2))))
        self.same(self.live.stored(1), (1, ((0, 1), (1, 2))))
        self.same(self.live.eldest(), 0)

    def test_change(self):
        self.live.write({"a": 3})
        self.assertIsNone(self.live.change(("greatest", "a", 2, "cut")))
        self.live.change(("rename", "b", "c"))
        self.same(self.live.history, HISTORY.then(("greatest", "a", 2, "cut")).then(("rename", "b", "c")))
        self.same(self.live.stored(0), (1, ((0, 3), (1, 1))))
        self.same(self.live.read(0), {"a": 2, "c": 1})
        self.assertEqual(list(self.live.read(0)), ["a", "c"])
        self.live.write({"c": 2})
        self.same(self.live.plain(), Plain(self.live.history, [{"a": 2, "c": 1}, {"a": 1, "c": 2}]))

    def test_touch(self):
        self.live.write_late(0, {"a": 3})
        self.live.write({})
        self.live.change(("greatest", "a", 2, "cut"))
        self.assertIsNone(self.live.touch(0))
        self.same(self.live.stored(0), (2, ((0, 2), (1, 1))))
        self.same(self.live.stored(1), (1, ((0, 1), (1, 1))))
        self.same(self.live.eldest(), 1)
        self.assertIsNone(self.live.touch_all())
        self.same(self.live.stored(1), (2, ((0, 1), (1, 1))))
        self.same(self.live.eldest(), 2)
        self.same(self.live.steps(), 5)

    def test_a_touched_row_goes_on_from_there(self):
        self.live.write({"a": None})
        self.live.touch(0)
        self.live.change(("fill", "a", 2))
        self.live.touch(0)
        self.live.change(("fill", "a", 3))
        self.same(self.live.read(0), {"a": 2, "b": 1})

    def test_steps_that_change_nothing(self):
        self.live.touch_all()
        self.same(self.live.steps(), 1)
        self.live.write({})
        self.live.touch(0)
        self.live.touch_all()
        self.live.change(("default", "a", 1))
        self.live.change(("greatest", "a", 3, "refuse"))
        self.same(self.live.steps(), 6)
        for left in range(5, -1, -1):
            self.assertIsNone(self.live.undo())
            self.same(self.live.steps(), left)
        self.same(state(self.live), state(Live(HISTORY)))

    def test_undo(self):
        states = []
        for step in [lambda live: live.write({}), lambda live: live.change(("drop", "a")), lambda live: live.write_late(0, {}),
                     lambda live: live.touch(0), lambda live: live.change(("add", "a", 1, 1)), lambda live: live.touch_all(),
                     lambda live: live.write({"a": None})]:
            states.append(state(self.live))
            step(self.live)
        while states:
            self.live.undo()
            self.same(state(self.live), states.pop())
        self.fails(NothingToUndo, "step", self.live.undo)

    def test_undone_steps_are_gone(self):
        self.live.write({"a": 2})
        self.live.undo()
        self.same(self.live.write({"a": 3}), 0)
        self.live.undo()
        self.fails(NothingToUndo, "step", self.live.undo)
        # The changes of the history that it began with are no steps.
        self.assertEqual(len(self.live.history), 1)

    def test_rows_that_are_dropped_with_a_column(self):
        self.live.write({"a": 3})
        self.live.change(("drop", "a"))
        self.live.change(("add", "a", 1, None))
        self.same(self.live.read(0), {"b": 1, "a": None})
        self.live.touch(0)
        self.same(self.live.stored(0), (3, ((1, 1), (2, None))))

    def test_what_is_told_is_new(self):
        told = {"a": 2}
        self.live.write(told)
        told.clear()
        self.live.read(0).clear()
        self.live.plain().rows().clear()
        self.same(self.live.read(0), {"a": 2, "b": 1})

    def test_two_of_one_history(self):
        other = Live(HISTORY)
        self.live.write({})
        self.live.change(("drop", "a"))
        self.same(state(other), state(Live(HISTORY)))
        self.assertEqual(len(HISTORY), 1)


class Errors(Case):

    def setUp(self):
        self.live = Live(HISTORY)
        self.live.write_late(0, {"a": 3})
        self.live.write({})
        self.live.change(("add", "c", 1, None))

    def check(self, error, kept, call, *given):
        ahead = state(self.live)
        self.fails(error, kept, call, *given)
        self.same(state(self.live), ahead)

    def test_history(self):
        for value in STRANGE + [None, 0, History, [Column("a", 1)], Plain(HISTORY), self.live]:
            self.fails(BadPart, "history", Live, value)

    def test_change(self):
        for value in STRANGE + [None, 0, "drop", ("drop",), ["drop", "a"], ("fill", "a", None), ("fill", "a", "?")]:
            self.check(BadChange, value, self.live.change, value)
        for word, change in [("unknown", ("drop", "d")), ("alive", ("rename", "a", "b")), ("above", ("fill", "a", 4)),
                             ("default", ("greatest", "b", 1, "refuse")), ("row", ("greatest", "a", 2, "refuse"))]:
            if word == "default":
                self.live.change(("default", "b", 2))
            self.check(CannotBe, word, self.live.change, change)
        # What bars a row is what it is followed with, not what is stored.
        self.live.change(("greatest", "a", 2, "cut"))
        self.live.change(("greatest", "a", 3, "cut"))
        self.live.change(("greatest", "a", 2, "refuse"))
        self.same(self.live.read(0), {"a": 2, "b": 1, "c": None})

    def test_a_default_that_bars_goes_first(self):
        self.live.change(("default", "a", 3))
        self.check(CannotBe, "default", self.live.change, ("greatest", "a", 2, "refuse"))
        self.live.change(("default", "a", 0))
        self.check(CannotBe, "row", self.live.change, ("greatest", "a", 2, "refuse"))

    def test_many_changes(self):
        while len(self.live.history) < 40:
            self.live.change(("default", "b", 1))
        self.check(TooMany, 40, self.live.change, ("default", "b", 1))
        self.check(CannotBe, "unknown", self.live.change, ("drop", "d"))
        self.check(CannotBe, "row", self.live.change, ("greatest", "a", 2, "refuse"))
        self.check(BadChange, None, self.live.change, None)
        self.live.write({})

    def test_tellings(self):
        for call in [self.live.write, lambda told: self.live.write_late(2, told), lambda told: self.live.write_late(0, told)]:
            for value in [None, 0, True, "a", [], (), {"a"}, [("a", 1)], object()]:
                self.check(BadRow, value, call, value)
            for name in [None, 0, True, "d", "A", "", ("a",)]:
                self.check(UnknownName, name, call, {"a": 1, name: 9, "b": 9})
            for value in STRANGE + [-1, 4, "missing"]:
                self.check(BadValue, "a", call, {"b": 1, "a": value, "d": 0})
        self.check(UnknownName, "c", self.live.write_late, 0, {"c": 1})

    def test_late_editions(self):
        for value in STRANGE + [None, -1, 3, 100, "0"]:
            self.check(BadEdition, value, self.live.write_late, value, {})
            self.check(BadEdition, value, self.live.write_late, value, None)

    def test_late_rows_that_are_barred(self):
        self.live.undo()
        self.live.undo()
        self.live.undo()
        self.live.change(("greatest", "a", 2, "refuse"))
        self.check(CannotBe, "row", self.live.write_late, 0, {"a": 3})
        self.check(CannotBe, "row", self.live.write_late, 1, {"a": 3, "b": 2})
        self.check(BadValue, "a", self.live.write_late, 2, {"a": 3})
        self.check(BadValue, "b", self.live.write_late, 0, {"a": 3, "b": 3})
        self.same(self.live.write_late(1, {"a": 2}), 0)

    def test_many_rows(self):
        while len(self.live) < 100:
            self.live.write({})
        self.check(TooMany, 100, self.live.write, {})
        self.check(TooMany, 100, self.live.write_late, 0, {})
        self.check(BadRow, None, self.live.write, None)
        self.check(UnknownName, "d", self.live.write, {"d": 1})
        self.check(BadValue, "a", self.live.write_late, 0, {"a": 4})
        self.check(BadEdition, 9, self.live.write_late, 9, {})
        self.live.touch_all()
        self.assertEqual(len(self.live), 100)

    def test_barred_ahead_of_many(self):
        live = Live(History([Column("a", 3)], [("greatest", "a", 2, "refuse")]))
        for _ in range(100):
            live.write({})
        self.fails(CannotBe, "row", live.write_late, 0, {"a": 3})
        self.fails(TooMany, 100, live.write_late, 0, {"a": 2})

    def test_indexes(self):
        for value in STRANGE + [None, -1, 2, 100, "0"]:
            for call in [self.live.touch, self.live.stored, self.live.read]:
                self.check(BadRow, value, call, value)
        for call in [Live(HISTORY).touch, Live(HISTORY).stored, Live(HISTORY).read]:
            self.fails(BadRow, 0, call, 0)


class Boom(Exception):
    pass


def many_steps(live):
    """More steps than there were, and more taken back than were done."""
    while live.steps() > 0:
        live.undo()
    live.write({})
    live.change(("drop", "a"))
    live.touch_all()
    return live


class Trials(Case):

    def setUp(self):
        self.live = Live(HISTORY)
        self.live.write({"a": 3})
        self.live.change(("rename", "a", "c"))
        self.live.change(("rename", "c", "a"))
        self.live.touch(0)
        self.ahead = state(self.live)

    def check_ahead(self):
        self.same(state(self.live), self.ahead)
        self.same(self.live.steps(), 4)

    def test_what_a_deed_returns(self):
        self.same(self.live.attempt(lambda live: live.write({})), 1)
        self.check_ahead()
        self.assertIsNone(self.live.attempt(lambda live: live.touch_all()))
        self.assertIs(self.live.attempt(many_steps), self.live)
        self.check_ahead()
        self.same(self.live.attempt(lambda live: (live.change(("drop", "b")), live.read(0))), (None, {"a": 3}))
        self.check_ahead()
        # The steps ahead of it can still be taken back, one by one.
        for _ in range(4):
            self.live.undo()
        self.same(state(self.live), state(Live(HISTORY)))

    def test_deeds_that_raise(self):
        def deed(live):
            many_steps(live)
            raise Boom

        self.assertRaises(Boom, self.live.attempt, deed)
        self.check_ahead()
        self.fails(CannotBe, "row", self.live.attempt, lambda live: live.change(("greatest", "a", 2, "refuse")))
        self.check_ahead()
        self.fails(NothingToUndo, "step", self.live.attempt, lambda live: [live.undo() for _ in range(5)])
        self.check_ahead()

    def test_one_within_another(self):
        def inner(live):
            live.undo()
            live.write({})
            return state(live)

        def outer(live):
            live.change(("drop", "b"))
            there = state(live)
            told = live.attempt(inner)
            self.same(state(live), there)
            self.assertNotEqual(told, there)
            self.assertRaises(NothingToUndo, live.attempt, lambda live: [live.undo() for _ in range(9)])
            self.same(state(live), there)
            live.undo()
            self.same(state(live), self.ahead)
            return len(live.history)

        self.same(self.live.attempt(outer), 3)
        self.check_ahead()

    def test_trying(self):
        with self.live.trying() as live:
            self.assertIs(live, self.live)
            many_steps(live)
            with live.trying() as again:
                self.assertIs(again, live)
                self.assertEqual(len(again.history), 2)
                again.undo()
                again.undo()
                self.assertEqual(len(again.history), 1)
            self.assertEqual(len(live.history), 2)
        self.check_ahead()

    def test_as_it_was_when_the_block_began(self):
        trial = self.live.trying()
        self.live.write({"b": 2})
        there = state(self.live)
        with trial:
            many_steps(self.live)
        self.same(state(self.live), there)

    def test_trying_that_raises(self):
        with self.assertRaises(Boom):
            with self.live.trying() as live:
                many_steps(live)
                raise Boom
        self.check_ahead()

        def leaves():
            with self.live.trying() as live:
                return live.write({})

        self.same(leaves(), 1)
        self.check_ahead()

    def test_goes_on_behind_it(self):
        self.live.attempt(many_steps)
        self.same(self.live.write({}), 1)
        self.same(self.live.steps(), 5)
        self.live.undo()
        self.check_ahead()


class Table:
    """What a live table must be: a plain table by the model, the stored rows, and all that was ahead of it."""

    def __init__(self, first):
        self.first, self.changes, self.rows, self.stored, self.past = first, [], [], [], []

    def columns(self):
        return model.editions(self.first, self.changes)

    def begin_step(self):
        self.past.append((list(self.changes), [dict(row) for row in self.rows], list(self.stored)))

    def undo(self):
        self.changes, self.rows, self.stored = self.past.pop()


class Drawn(Case):
    """Steps in drawn orders, measured behind each against a plain table that got all changes and writes in their time."""

    def change(self, chance, live, table):
        columns = table.columns()[-1]
        change = model.any_change(chance, columns, 3)
        fits = model.editions(table.first, table.changes + [change]) is not None
        behind = [model.row_behind(columns, change, row) for row in table.rows] if fits else []
        if not fits or None in behind:
            word = None if not fits else "row"
            with self.assertRaises(CannotBe) as caught:
                live.change(change)
            self.assertTrue(word is None and caught.exception.word != "row" or caught.exception.word == word)
            return
        table.begin_step()
        live.change(change)
        table.changes.append(change)
        table.rows = behind

    def write(self, chance, live, table):
        editions = table.columns()
        edition = chance.choice([len(table.changes)] * 2 + list(range(len(editions))))
        columns = editions[edition]
        told = {name: chance.choice(model.values_of(greatest)) for name, _, greatest, _ in columns if chance.random() < 0.7}
        row = {name: told.get(name, default) for name, _, _, default in columns}
        trail = model.trail(editions, table.changes, edition, row)
        if len(trail) < len(editions) - edition:
            self.fails(CannotBe, "row", live.write_late, edition, told)
            return
        table.begin_step()
        if edition == len(table.changes) and chance.random() < 0.5:
            self.same(live.write(told), len(table.rows))
        else:
            self.same(live.write_late(edition, told), len(table.rows))
        table.rows.append(trail[-1])
        table.stored.append(model.stored_of(columns, edition, row))

    def touch(self, chance, live, table):
        if not table.rows:
            self.fails(BadRow, 0, live.touch, 0)
            return
        table.begin_step()
        index = chance.randrange(len(table.rows))
        live.touch(index)
        table.stored[index] = model.stored_of(table.columns()[-1], len(table.changes), table.rows[index])

    def touch_all(self, chance, live, table):
        table.begin_step()
        live.touch_all()
        columns = table.columns()[-1]
        table.stored = [model.stored_of(columns, len(table.changes), row) for row in table.rows]

    def undo(self, chance, live, table):
        if not table.past:
            self.fails(NothingToUndo, "step", live.undo)
            return
        live.undo()
        table.undo()

    def check(self, live, table):
        history = history_of(table.first, table.changes)
        self.same(live.history, history)
        self.assertEqual(len(live), len(table.rows))
        self.same([live.stored(index) for index in range(len(live))], table.stored)
        self.same([live.read(index) for index in range(len(live))], table.rows)
        for index in range(len(live)):
            self.assertEqual(list(live.read(index)), [column[0] for column in table.columns()[-1]])
        self.same(live.plain(), Plain(history, table.rows))
        self.assertEqual(live.eldest(), min([row[0] for row in table.stored], default=None))
        self.same(live.steps(), len(table.past))

    def test_orders(self):
        chance = random.Random(45)
        for _ in range(40):
            first = chance.choice(model.FIRSTS)
            live, table = Live(history_of(first, [])), Table(first)
            for _ in range(40):
                steps = [self.change] * 4 + [self.write] * 4 + [self.touch, self.touch_all] + [self.undo] * 2
                if len(table.changes) > 12:
                    steps = [self.undo]
                chance.choice(steps)(chance, live, table)
                self.check(live, table)
            while table.past:
                self.undo(chance, live, table)
                self.check(live, table)

    def test_trials_in_drawn_orders(self):
        chance = random.Random(46)
        for _ in range(20):
            first = chance.choice(model.FIRSTS)
            live, table = Live(history_of(first, [])), Table(first)
            for _ in range(15):
                chance.choice([self.change, self.write, self.write, self.touch])(chance, live, table)
                there = state(live)
                past = copy.deepcopy((table.past, table.changes, table.rows, table.stored))

                def deed(live):
                    for _ in range(5):
                        chance.choice([self.change, self.write, self.touch_all, self.undo])(chance, live, table)
                        self.check(live, table)
                    return state(live)

                told = live.attempt(deed)
                self.assertEqual(len(told[1]), len(table.rows))
                table.past, table.changes, table.rows, table.stored = past
                self.same(state(live), there)
                self.check(live, table)


class Example(Case):

    def test_by_name(self):
        live = Live(history=HISTORY)
        self.assertIsNone(live.change(change=("fill", "a", 1)))
        self.same(live.write(told={}), 0)
        self.same(live.write_late(told={}, edition=0), 1)
        self.assertIsNone(live.touch(index=0))
        self.same(live.stored(index=0), (2, ((0, 1), (1, 1))))
        self.same(live.read(index=1), {"a": 0, "b": 1})
        self.same(live.attempt(deed=len), 2)


if __name__ == "__main__":
    unittest.main()
