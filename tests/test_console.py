import random
import unittest

from editionrows.columns import Column
from editionrows.console import Console
from editionrows.errors import (BadEdition, BadLine, BadPart, BadRow, BadValue, CannotBe, NothingToUndo, TooMany,
                                UnknownName)
from editionrows.histories import History
from editionrows.live import Live
from editionrows.texts import write_change, write_history, write_told
from tests import model
from tests.helpers import STRANGE, Alike, Case, history_of

HISTORY = History([Column("a", 3, 0), Column("b", 2, 1)], [("default", "a", 1)])


def state(live):
    rows = [(live.stored(index), live.read(index)) for index in range(len(live))]
    return live.history, rows, live.steps()


class Lines(Case):

    def setUp(self):
        self.console = Console(HISTORY)

    def answers(self, *pairs):
        for line, answer in pairs:
            self.same(self.console.answer(line), answer)

    def test_begun(self):
        self.assertIs(type(self.console.live), Live)
        self.same(state(self.console.live), (HISTORY, [], 0))
        for value in STRANGE + [None, 0, Live(HISTORY), [Column("a", 1)]]:
            self.fails(BadPart, "history", Console, value)

    def test_changes(self):
        self.answers(("add c 1 -", "ok"), ("rename a d", "ok"), ("default d 3", "ok"), ("greatest d 9 none", "ok"),
                     ("fill c 0", "ok"), ("drop b", "ok"), ("columns", "d c"))
        self.same(self.console.live.history.changes_told()[1:], [
            ("add", "c", 1, None), ("rename", "a", "d"), ("default", "d", 3), ("greatest", "d", 9, "none"), ("fill", "c", 0),
            ("drop", "b")])
        self.same(self.console.live.steps(), 6)

    def test_rows(self):
        self.answers(("count", "0"), ("write", "0"), ("write a - b 2", "1"), ("late 0", "2"), ("late 0 b -", "3"), ("late 1 a 3", "4"),
                     ("count", "5"), ("row 0", "1 0 1 1 1"), ("row 1", "1 0 - 1 2"), ("row 2", "0 0 0 1 1"),
                     ("row 3", "0 0 0 1 -"), ("read 0", "a 1 b 1"), ("read 3", "a 0 b -"), ("read 4", "a 3 b 1"))
        self.answers(("rename a c", "ok"), ("greatest c 2 cut", "ok"), ("fill b 2", "ok"), ("add a 12 11", "ok"),
                     ("read 3", "c 0 b 2 a 11"), ("read 4", "c 2 b 1 a 11"), ("row 4", "1 0 3 1 1"), ("touch 4", "ok"),
                     ("row 4", "5 0 2 1 1 2 11"), ("row 3", "0 0 0 1 -"), ("touch all", "ok"), ("row 3", "5 0 0 1 2 2 11"),
                     ("undo", "ok"), ("row 3", "0 0 0 1 -"), ("undo", "ok"), ("row 4", "1 0 3 1 1"))

    def test_questions_are_no_steps(self):
        self.answers(("write", "0"), ("columns", "a b"), ("count", "1"), ("read 0", "a 1 b 1"), ("row 0", "1 0 1 1 1"),
                     ("history", "column a 3 0\ncolumn b 2 1\ndefault a 1"))
        self.same(self.console.live.steps(), 1)

    def test_numbers_beyond_ten(self):
        for index in range(11):
            self.answers(("write", str(index)), ("fill a 1", "ok"))
        self.answers(("row 10", "11 0 1 1 1"), ("late 11 a 2", "11"), ("read 11", "a 2 b 1"), ("touch 10", "ok"),
                     ("row 10", "12 0 1 1 1"))

    def test_numbers_that_are_not_in_a_row(self):
        self.answers(("drop a", "ok"), ("add a 1 1", "ok"), ("write b -", "0"), ("row 0", "3 1 - 2 1"), ("columns", "b a"))

    def test_try(self):
        self.answers(("write a 3", "0"), ("fill b 1", "ok"))
        for line, answer in [("drop a", "ok"), ("write", "1"), ("write a 2", "1"), ("late 0", "1"), ("late 1 b 2", "1"),
                             ("touch 0", "ok"), ("touch all", "ok"), ("undo", "ok"), ("greatest a 1 cut", "ok")]:
            ahead = state(self.console.live)
            self.answers(("try " + line, answer))
            self.same(state(self.console.live), ahead)
            self.answers((line, answer), ("undo", "ok") if line != "undo" else ("fill b 1", "ok"))
            self.same(state(self.console.live), ahead)

    def test_of_the_same_live(self):
        self.console.live.write({"a": 2})
        self.answers(("count", "1"), ("read 0", "a 2 b 1"))
        self.console.live.undo()
        self.answers(("count", "0"))


NO_LINES = [
    "", " ", "\n", "write ", " write", "write  a 1", "write a", "write a 1 ", "write a 1 a 2", "write a 01", "write A 1", "Write",
    "write a 1\n", "write\n", "late", "late ", "late 0 ", "late  0", "late 00", "late 01 a 1", "late 1000", "late a", "late -", "late 0 a",
    "late 0 a 1 a 1", "late -1", "late +1", "late 0  a 1", "late 0a 1", "touch", "touch ", "touch 00", "touch 01", "touch 1000",
    "touch -1", "touch a", "touch  0", "touch 0 ", "touch all ", "touch All", "touch 0 1", "touch \u0661", "undo ", " undo", "Undo",
    "undo 1", "undo\n", "read", "read ", "read 00", "read 1000", "read a", "read all", "read 0 ", "read  0", "read 0 1", "read -1",
    "row", "row ", "row 01", "row 1000", "row a", "row 0 ", "row all", "columns ", " columns", "column", "column a 1 0", "columns 0",
    "count ", "count 1", "Count", "history ", "history 0", "history\n", "drop", "drop a ", "fill a -", "fill a 100", "add c 1",
    "greatest a 1", "drop a\ndrop b", "drop a\n", "help", "ok", "0", "?", "-", "write: a 1", "touch \u00b2", "undo\r",
]


class Errors(Case):

    def setUp(self):
        self.console = Console(HISTORY)
        for line in ["write a 3", "late 0", "fill b 1"]:
            self.console.answer(line)

    def check(self, error, kept, line):
        ahead = state(self.console.live)
        self.fails(error, kept, self.console.answer, line)
        self.same(state(self.console.live), ahead)

    def test_lines_that_are_none(self):
        for line in NO_LINES:
            self.check(BadLine, line, line)
            self.check(BadLine, "try " + line, "try " + line)

    def test_behind_try(self):
        for line in ["try", "try ", "try read 0", "try row 0", "try columns", "try count", "try history", "try try undo", "try  undo",
                     "try try", "try undo ", " try undo", "Try undo", "try\nundo", "tryundo", "try write "]:
            self.check(BadLine, line, line)

    def test_any_value(self):
        for value in STRANGE + [None, 0, b"undo", ["undo"], ("undo",), Alike(), object()]:
            self.check(BadLine, value, value)

    def test_errors_of_the_calls(self):
        for error, kept, line in [
            (CannotBe, "row", "greatest a 2 refuse"), (CannotBe, "unknown", "drop z"), (CannotBe, "alive", "add a 1 0"),
            (CannotBe, "above", "add c 1 2"), (UnknownName, "z", "write z 1"), (BadValue, "a", "write a 4"),
            (UnknownName, "z", "write b 1 z 1 a 9"), (BadEdition, 3, "late 3"), (BadEdition, 999, "late 999 z 1"),
            (UnknownName, "z", "late 0 z 1"), (BadValue, "b", "late 0 b 3"), (BadRow, 2, "touch 2"), (BadRow, 999, "touch 999"),
        ]:
            self.check(error, kept, line)
            self.check(error, kept, "try " + line)
        self.check(BadRow, 2, "read 2")
        self.check(BadRow, 999, "row 999")

    def test_what_is_barred(self):
        for line in ["undo", "undo", "undo", "greatest a 2 refuse"]:
            self.console.answer(line)
        self.check(CannotBe, "row", "late 0 a 3")
        self.check(CannotBe, "row", "try late 1 a 3")
        self.console.answer("undo")
        self.check(NothingToUndo, "step", "undo")
        self.check(NothingToUndo, "step", "try undo")

    def test_too_many(self):
        while len(self.console.live) < 100:
            self.console.answer("write")
        self.check(TooMany, 100, "write")
        self.check(TooMany, 100, "try late 0")
        while len(self.console.live.history) < 40:
            self.console.answer("fill a 1")
        self.check(TooMany, 40, "fill a 1")
        self.check(TooMany, 40, "try fill a 1")


class Drawn(Case):
    """Lines against the calls of a Live."""

    def line(self, chance, live):
        """A line, and the call of a Live that it stands for."""
        present = len(live.history)
        edition, index = chance.randint(0, present + 1), chance.randint(0, len(live))
        told = {name: chance.choice([None, 0, 1, 2]) for name in "abc" if chance.random() < 0.4}
        text = write_told(told)
        columns = [(column.name, 0, 3, 0) for column in live.history.columns()]
        change = model.any_change(chance, columns, 3)
        return chance.choice([
            (write_change(change), lambda live: live.change(change)),
            ("write " + text if told else "write", lambda live: live.write(told)),
            (f"late {edition} {text}" if told else f"late {edition}", lambda live: live.write_late(edition, told)),
            (f"touch {index}", lambda live: live.touch(index)),
            ("touch all", lambda live: live.touch_all()),
            ("undo", lambda live: live.undo()),
        ])

    def outcome(self, call, *given):
        try:
            found = call(*given)
        except Exception as error:
            return type(error), vars(error)
        return "ok" if found is None else str(found)

    def check_questions(self, console, live):
        self.same(console.answer("count"), str(len(live)))
        self.same(console.answer("history"), write_history(live.history))
        self.same(console.answer("columns"), " ".join(column.name for column in live.history.columns()))
        for index in range(len(live) + 1):
            self.assertEqual(self.outcome(console.answer, f"read {index}"),
                             self.outcome(lambda at: write_told(live.read(at)), index))
            row = self.outcome(console.answer, f"row {index}")
            if index < len(live):
                edition, values = live.stored(index)
                flat = [str(edition)] + [f"{number} {'-' if value is None else value}" for number, value in values]
                self.assertEqual(row, " ".join(flat))
            else:
                self.assertEqual(row, (BadRow, {"index": index}))

    def test_lines(self):
        chance = random.Random(48)
        answers = set()
        for _ in range(30):
            history = history_of(chance.choice(model.FIRSTS), [])
            console, live = Console(history), Live(history)
            for _ in range(40):
                line, call = self.line(chance, live)
                if chance.random() < 0.3:
                    wanted = self.outcome(live.attempt, call)
                    found = self.outcome(console.answer, "try " + line)
                else:
                    wanted = self.outcome(call, live)
                    found = self.outcome(console.answer, line)
                self.assertEqual(found, wanted, line)
                answers.add(found if isinstance(found, str) else found[0])
                self.same(state(console.live), state(live))
            self.check_questions(console, live)
        self.assertLessEqual({"ok", "0", "1", "2", CannotBe, BadEdition, BadRow, UnknownName, BadValue, NothingToUndo}, answers)


class Example(Case):

    def test_by_name(self):
        console = Console(history=HISTORY)
        self.same(console.answer(line="count"), "0")


if __name__ == "__main__":
    unittest.main()
