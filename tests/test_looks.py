import random
import unittest

from editionrows.changes import why_not
from editionrows.columns import Column
from editionrows.errors import BadChange, BadEdition, BadPart
from editionrows.histories import History
from editionrows.looks import barring, looks, needs_rows
from editionrows.maps import is_dead
from editionrows.stored import all_stored, followed
from tests import model
from tests.helpers import STRANGE, Case, history_of

HISTORY = History([Column("a", 4, 0), Column("b", 2, 2)], [
    ("add", "c", 3, 3),                 # 1
    ("greatest", "a", 3, "none"),       # 2
    ("default", "c", 0),                # 3
    ("fill", "a", 3),                   # 4
    ("greatest", "b", 1, "cut"),        # 5
    ("add", "d", 5, 1),                 # 6
])
NO_CHANGES = STRANGE + [None, 0, "drop", ["drop", "a"], ("drop",), ("drop", 3), ("fill", "a", None), ("greatest", "a", 0, "cut"),
                        ("greatest", "a", 1, "last"), ("add", "e", 1)]
ABOVE = ("greatest", "a", 2, "refuse")


class Needs(Case):

    def test_changes_of_all_kinds(self):
        columns = [Column("a", 3, 1), Column("b", 3)]
        for change, wanted in [
            (("greatest", "a", 2, "refuse"), True), (("greatest", "a", 1, "refuse"), True),
            (("greatest", "b", 1, "refuse"), True), (("greatest", "b", 2, "refuse"), True),
            (("greatest", "a", 3, "refuse"), False), (("greatest", "a", 4, "refuse"), False),
            (("greatest", "a", 2, "cut"), False), (("greatest", "a", 2, "none"), False),
            (("greatest", "c", 2, "refuse"), False), (("add", "c", 2, 1), False), (("drop", "a"), False),
            (("rename", "a", "c"), False), (("default", "a", 0), False), (("fill", "a", 3), False),
        ]:
            self.truth(needs_rows(change, columns), wanted, change)
            self.truth(needs_rows(change, tuple(columns)), wanted, change)

    def test_below_the_default(self):
        for default, least in [(None, 1), (0, 1), (1, 1), (2, 2), (3, 3)]:
            for greatest in [1, 2, 3, 4]:
                self.truth(needs_rows(("greatest", "a", greatest, "refuse"), [Column("a", 3, default)]),
                           least <= greatest < 3)

    def test_no_change(self):
        for change in NO_CHANGES:
            self.fails(BadChange, change, needs_rows, change, [Column("a", 3)])


class Looks(Case):

    def test_let_by_columns_alone(self):
        for change in [("add", "e", 2, 1), ("drop", "a"), ("rename", "a", "e"), ("default", "a", 0), ("fill", "a", 3),
                       ("greatest", "a", 1, "cut"), ("greatest", "a", 1, "none"), ("greatest", "a", 3, "refuse"),
                       ("greatest", "a", 9, "refuse")]:
            for editions in [[], [0], [6, 0, 3], (1, 2)]:
                self.same(looks(HISTORY, change, editions), "let")
                self.assertIsNone(barring(HISTORY, change, editions))

    def test_what_cannot_be_done(self):
        for change in [("add", "a", 2, 1), ("add", "e", 2, 3), ("drop", "e"), ("rename", "a", "b"), ("rename", "a", "a"),
                       ("default", "a", 4), ("fill", "a", 4), ("greatest", "e", 1, "refuse"),
                       ("greatest", "e", 1, "cut")]:
            for editions in [[], [0], [6, 0, 3]]:
                self.same(looks(HISTORY, change, editions), "refused")
                self.assertIsNone(barring(HISTORY, change, editions))
        history = History([Column("a", 4, 3)])
        self.same(looks(history, ("greatest", "a", 2, "refuse"), []), "refused")
        self.same(looks(history, ("greatest", "a", 2, "refuse"), [0]), "refused")
        self.assertIsNone(barring(history, ("greatest", "a", 2, "refuse"), [0]))
        self.same(looks(history, ("drop", "a"), [0]), "refused")

    def test_of_a_refuse(self):
        # a: 3 is there at each edition, up to 4 what is above leads there by the fill.
        for edition in range(7):
            self.same(looks(HISTORY, ABOVE, [edition]), "look")
        self.assertEqual([barring(HISTORY, ABOVE, [edition]) for edition in range(7)],
                         [(0, None), (1, None), (2, None), (3, None), (4, 3), (5, 3), (6, 3)])
        # b: up to edition 4 all values are cut to 1.
        for editions in [[0], [4, 2, 0], [5, 6], []]:
            self.same(looks(HISTORY, ("greatest", "b", 1, "refuse"), editions), "let")
            self.assertIsNone(barring(HISTORY, ("greatest", "b", 1, "refuse"), editions))

    def test_younger_columns(self):
        change = ("greatest", "c", 2, "refuse")
        self.same(looks(HISTORY, change, [0]), "refused")
        self.same(looks(HISTORY, change, [3, 0, 1]), "refused")
        self.same(looks(HISTORY, change, [3, 1]), "look")
        self.same(looks(HISTORY, change, []), "let")
        self.same(barring(HISTORY, change, [0]), (0, "missing"))
        self.same(barring(HISTORY, change, [3, 0, 1]), (3, 3))
        change = ("greatest", "d", 1, "refuse")
        self.same(looks(HISTORY, change, [0, 1, 2, 3, 4, 5]), "let")
        self.assertIsNone(barring(HISTORY, change, [0, 1, 2, 3, 4, 5]))
        self.same(looks(HISTORY, change, [0, 6]), "look")
        self.same(barring(HISTORY, change, [0, 6]), (6, 2))

    def test_the_order_of_the_list(self):
        self.same(barring(HISTORY, ABOVE, [5, 0]), (5, 3))
        self.same(barring(HISTORY, ABOVE, (0, 5)), (0, None))
        history = History([Column("a", 4)], [("greatest", "a", 5, "cut")])
        self.same(barring(history, ("greatest", "a", 3, "refuse"), [0, 1]), (0, 4))
        self.same(barring(history, ("greatest", "a", 3, "refuse"), [1, 0]), (1, 4))
        self.same(barring(history, ("greatest", "a", 4, "refuse"), [0, 1]), (1, 5))


DEAD = History([Column("a", 2, 0)], [("add", "b", 3, 2), ("default", "b", 0), ("greatest", "b", 1, "refuse")])


class Errors(Case):

    def test_no_history(self):
        for call in [looks, barring]:
            for value in STRANGE + [None, 0, History, [HISTORY]]:
                self.fails(BadPart, "history", call, value, ABOVE, [0])
                self.fails(BadPart, "history", call, value, None, None)

    def test_no_change(self):
        for call in [looks, barring]:
            for change in NO_CHANGES:
                self.fails(BadChange, change, call, HISTORY, change, [0])
                self.fails(BadChange, change, call, HISTORY, change, None)

    def test_no_list(self):
        for call in [looks, barring]:
            for change in [ABOVE, ("drop", "nobody"), ("drop", "a")]:
                for editions in [None, 0, True, "0", {0}, {0: 0}, object(), HISTORY]:
                    self.fails(BadEdition, None, call, HISTORY, change, editions)

    def test_no_editions(self):
        for call in [looks, barring]:
            for change in [ABOVE, ("drop", "nobody"), ("drop", "a")]:
                for edition in STRANGE + [None, -1, 7, "0"]:
                    self.fails(BadEdition, edition, call, HISTORY, change, [edition])
                    self.fails(BadEdition, edition, call, HISTORY, change, [0, 6, edition, 7, 0])
                self.fails(BadEdition, 2, call, HISTORY, change, [0, 2, 1, 2, None])
                self.fails(BadEdition, 0, call, HISTORY, change, (0, 0))

    def test_dead_ones(self):
        for call in [looks, barring]:
            self.fails(BadEdition, 0, call, DEAD, ("drop", "a"), [0])
            self.fails(BadEdition, 0, call, DEAD, ("drop", "a"), [1, 3, 0, 1])
            self.fails(BadEdition, 1, call, DEAD, ("drop", "a"), [1, 1, 0])
        self.same(looks(DEAD, ("drop", "a"), [1, 2, 3]), "let")


class Model(Case):
    """Against all rows that can be there."""

    def check(self, history, change, editions):
        rows = {edition: [row for row in all_stored(history, edition) if followed(history, row) is not None]
                for edition in editions}
        can = why_not(history.columns(), change) is None
        longer = history.then(change) if can else None
        done = {edition: [can and followed(longer, row) is not None for row in found] for edition, found in rows.items()}
        found = looks(history, change, editions)
        if not can or any(not any(each) for each in done.values()):
            self.assertEqual(found, "refused")
        else:
            self.assertEqual(found, "let" if all(all(each) for each in done.values()) else "look")
        first = barring(history, change, editions)
        self.assertEqual(first is not None, can and found != "let")
        if first is not None:
            number = history.column(change[1]).number
            barred = [edition for edition in editions if not all(done[edition])]
            self.assertEqual(first[0], barred[0])
            values = [dict(row[1]).get(number, "missing") for row, fine in zip(rows[barred[0]], done[barred[0]])
                      if not fine]
            order = ["missing", None, 0, 1, 2, 3]
            self.assertEqual(first[1], min(values, key=order.index))

    def test_drawn_histories(self):
        chance = random.Random(14)
        for _ in range(400):
            first, changes, there = model.drawn_history(chance, chance.randint(0, 6), 3, 2)
            history = history_of(first, changes)
            editions = [edition for edition in range(len(changes) + 1) if not is_dead(history, edition)]
            editions = chance.sample(editions, chance.randint(0, min(3, len(editions))))
            for _ in range(4):
                change = model.any_change(chance, there[-1], 3)
                self.check(history, change, editions)
            name = chance.choice(there[-1])[0]
            for greatest in [1, 2, 3]:
                self.check(history, ("greatest", name, greatest, "refuse"), editions)


class Example(Case):

    def test_by_name(self):
        self.same(looks(editions=[0], change=ABOVE, history=HISTORY), "look")
        self.same(barring(editions=[0], change=ABOVE, history=HISTORY), (0, None))
        self.truth(needs_rows(columns=HISTORY.columns(), change=ABOVE), True)


if __name__ == "__main__":
    unittest.main()
