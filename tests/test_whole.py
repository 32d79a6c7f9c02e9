"""What the document promises over all modules: each way to read a row tells what the plain table has."""

import copy
import random
import unittest

from editionrows.books import Book, book_reads
from editionrows.console import Console
from editionrows.covers import Memory, least_cover, live_ones
from editionrows.elders import can_be_there, elder_read
from editionrows.indexes import StoredIndex, is_in_order
from editionrows.late import is_late_right, meant
from editionrows.lives import is_right
from editionrows.likes import are_alike
from editionrows.maps import read_row
from editionrows.orders import exchanges, least_order
from editionrows.papers import lets_paper, paper_of
from editionrows.stored import followed
from editionrows.texts import read_history, write_change, write_history, write_told
from editionrows.toldback import explains, fillings, sure_reads
from editionrows.touches import remembered, touch_plan
from editionrows.twotables import least_pair_cover
from tests import model
from tests.helpers import Case, history_of

BOOKS = [Book(), Book(touching=["add", "fill"]), Book(missing="none", touching=["add"]),
         Book(numbering="again", mapping="last", touching=["add", "greatest", "fill"]),
         Book(missing="present", mapping="last", touching=["default", "greatest", "fill"])]


def drawn_console(chance):
    """A Console behind some lines, with rows of many editions, and the rows of a plain table beside it."""
    first = [("a", 0, 3, 0), ("b", 1, 2, None)]
    console, changes, rows = Console(history_of(first, [])), [], []
    while len(changes) < 7:
        columns = model.editions(first, changes)[-1]
        change = model.any_change(chance, columns, 3)
        if model.editions(first, changes + [change]) is not None and len(columns) + (change[0] == "add") <= 3:
            behind = [model.row_behind(columns, change, row) for row in rows]
            if None not in behind:
                console.answer(write_change(change))
                changes, rows = changes + [change], behind
        columns = model.editions(first, changes)[-1]
        told = {name: chance.choice(model.values_of(greatest)) for name, _, greatest, _ in columns}
        console.answer("write " + write_told(told))
        rows.append(told)
    return console, changes, rows


class Whole(Case):

    def setUp(self):
        self.chance = random.Random(49)
        self.drawn = [drawn_console(self.chance) for _ in range(12)]

    def test_each_way_to_read(self):
        for book in BOOKS:
            self.truth(is_right(book, 3), True)
            self.truth(lets_paper(book, 3, paper_of(book, 3)), True)
        for console, _, plain in self.drawn:
            history = console.live.history
            rows = [console.live.stored(index) for index in range(len(console.live))]
            memory = Memory(history, [row[0] for row in rows])
            self.assertEqual(len(memory), remembered(history, rows))
            for row, wanted in zip(rows, plain):
                self.truth(can_be_there(history, row), True)
                self.same(read_row(history, row), wanted)
                self.same(followed(history, row), wanted)
                self.same(memory.read(row), wanted)
                for book in BOOKS:
                    self.same(book_reads(book, history, row), wanted)
                self.same(elder_read(history, row[0], row), followed(history, row, edition=row[0]))
                told = followed(history, row, edition=row[0])
                if is_late_right(history, row[0]):
                    self.same(meant(history, row[0], told), wanted)
                self.truth(explains(history, [(row, len(history), wanted), (row, row[0], told)]), True)
            for column in history.columns():
                index = StoredIndex(history, column.number, rows)
                self.same([plain[at][column.name] for at in index.entries()], index.reads())
                if is_in_order(history, column.number, live_ones(history, [row[0] for row in rows])):
                    self.truth(index.is_sorted(), True)

    def test_touches(self):
        for console, _, plain in self.drawn:
            live = console.live
            rows = [live.stored(index) for index in range(len(live))]
            plan = touch_plan(live.history, rows, 2)
            for index in plan:
                console.answer(f"touch {index}")
            left = [live.stored(index) for index in range(len(live))]
            self.assertLessEqual(remembered(live.history, left), 2)
            self.same([live.read(index) for index in range(len(live))], plain)

    def test_told_back(self):
        for console, changes, plain in self.drawn:
            live = console.live
            first = live.history.first_columns()
            blank = [change if change[0] != "fill" else change[:2] + ("?",) for change in changes]
            while sum(change.count("?") for change in blank) > 3:
                at = [change[-1] for change in blank].index("?")
                blank[at] = changes[at]
            sightings = [(live.stored(index), len(changes), read) for index, read in enumerate(plain)]
            found = fillings(first, blank, sightings, most=3)
            self.assertIn(live.history, found)
            for history in found:
                self.truth(explains(history, sightings), True)
            for row, edition, read in sightings:
                self.same(sure_reads(first, blank, sightings, row, edition, most=3), read)

    def test_alike(self):
        for console, changes, plain in self.drawn:
            live = console.live
            self.same(read_history(console.answer("history")), live.history)
            self.same(write_history(read_history(write_history(live.history))), console.answer("history"))
            ordered = least_order(live.history)
            self.truth(are_alike(ordered, live.history), True)
            self.same(sorted(ordered.changes_told(), key=repr), sorted(changes, key=repr))
            self.assertLessEqual(len(exchanges(live.history)), len(changes) - 1)

    def test_two_tables(self):
        for one, other in zip(self.drawn[::2], self.drawn[1::2]):
            histories = [one[0].live.history, other[0].live.history]
            pairs = [(at, at) for at in range(8)]
            found = least_pair_cover(*histories, pairs)
            for side, history in enumerate(histories):
                self.assertGreaterEqual(len(found), len(least_cover(history, [pair[side] for lot in found for pair in lot])))

    def test_what_is_told_is_kept(self):
        for console, changes, plain in self.drawn[:3]:
            history = console.live.history
            rows = [console.live.stored(index) for index in range(len(console.live))]
            editions = [row[0] for row in rows]
            sightings = [(rows[0], len(history), plain[0])]
            told = copy.deepcopy((changes, rows, editions, sightings))
            Memory(history, editions)
            touch_plan(history, rows, 1, open_ones=editions)
            fillings(history.first_columns(), changes, sightings)
            sure_reads(history.first_columns(), changes, sightings, rows[0], len(history))
            least_pair_cover(history, history, list(zip(editions, editions)))
            self.assertEqual((changes, rows, editions, sightings), told)


if __name__ == "__main__":
    unittest.main()
