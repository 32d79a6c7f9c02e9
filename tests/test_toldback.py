import itertools
import random
import unittest

from editionrows.changes import is_change
from editionrows.columns import Column
from editionrows.errors import BadChange, BadColumn, BadPart, BadRow, TooMany
from editionrows.histories import History
from editionrows.stored import store
from editionrows.toldback import BLANK, blanks_in, explains, filled_in, fillings, is_blank_change, sure_reads
from tests import model
from tests.helpers import NO_LISTS, STRANGE, Alike, Case, history_of

BLANKS = [("add", "b", "?", 0), ("add", "b", 2, "?"), ("add", "b", "?", "?"), ("add", "b", "?", None), ("default", "a", "?"),
          ("greatest", "a", "?", "cut"), ("greatest", "a", "?", "refuse"), ("fill", "a", "?")]
PLAIN = [("add", "b", 2, 0), ("add", "b", 2, 9), ("add", "b", 2, None), ("drop", "a"), ("rename", "a", "c"),
         ("default", "a", None), ("default", "a", 1), ("greatest", "a", 99, "none"), ("fill", "a", 0)]
NO_CHANGES = STRANGE + [
    None, 0, "?", ("?",), ("?", "?"), ("drop", "?"), ("?", "a", 1), ("add", "?", 1, 0), ("add", "b", "?"), ("add", "b", 2, "??"),
    ("add", "b", "?", "?", "?"), ("add", "b", 0, "?"), ("add", "b", 100, "?"), ("add", "b", "?", -1), ("add", "b", True, "?"),
    ("rename", "a", "?"), ("rename", "?", "a"), ("default", "a", "? "), ("default", "a", ""), ("default", "a", ("?",)),
    ("default", "a", True), ("greatest", "a", "?", "?"), ("greatest", "a", 1, "?"), ("greatest", "a", None, "cut"),
    ("greatest", "a", "?", "trim"), ("fill", "a", None), ("fill", "a", -1), ("fill", "?", "?"), ("fill", "A", "?"),
    ("fill", "a", "?", "?"), ["fill", "a", "?"], ("fill", "a", Alike()), ("fill", "a", b"?"), ("default", "a", ["?"]),
    ("fill", Alike(), "?"), (Alike(), "a", "?"), ("drop", "a", "?"),
]
COLUMNS = [Column("a", 9), Column("b", 4, 1)]


class Blanks(Case):

    def test_blank(self):
        self.same(BLANK, "?")

    def test_changes(self):
        for change in BLANKS + PLAIN:
            self.truth(is_blank_change(change), True, change)
        for change in BLANKS:
            self.truth(is_change(change), False)
        for value in NO_CHANGES:
            self.truth(is_blank_change(value), False, value)

    def test_each_place(self):
        for change in PLAIN:
            for places in itertools.product([False, True], repeat=len(change)):
                told = tuple("?" if place else part for place, part in zip(places, change))
                kinds = {"add": [2, 3], "default": [2], "greatest": [2], "fill": [2]}.get(change[0], [])
                self.truth(is_blank_change(told), all(at in kinds for at, place in enumerate(places) if place), told)

    def test_blanks_in(self):
        self.same(blanks_in([]), 0)
        self.same(blanks_in(PLAIN), 0)
        self.same(blanks_in(BLANKS), 9)
        self.same(blanks_in(tuple(BLANKS[2:4])), 3)

    def test_filled_in(self):
        changes = [("add", "c", "?", "?"), ("drop", "a"), ("fill", "c", "?")]
        self.same(filled_in(changes, [4, 0, 99]), [("add", "c", 4, 0), ("drop", "a"), ("fill", "c", 99)])
        self.same(filled_in(tuple(changes), (0, 7, 1)), [("add", "c", 0, 7), ("drop", "a"), ("fill", "c", 1)])
        self.same(filled_in(PLAIN, []), PLAIN)
        self.same(filled_in([], ()), [])
        numbers = [4, 0, 99]
        filled_in(changes, numbers).clear()
        self.assertEqual((changes[0], numbers), (("add", "c", "?", "?"), [4, 0, 99]))

    def test_filled_in_errors(self):
        for value in NO_LISTS:
            self.fails(BadChange, None, filled_in, value, [])
            self.fails(BadPart, "numbers", filled_in, [("fill", "a", 1)], value)
            self.fails(BadPart, "numbers", filled_in, [("fill", "a", "?")], value)
        for value in NO_CHANGES:
            self.fails(BadChange, 0, filled_in, [value], [1])
            self.fails(BadChange, 1, filled_in, [("fill", "a", "?"), value, None], None)
        for numbers in [[], [1], [1, 2, 3], [1, None], [1, -1], [100, 1], [1, "1"], [True, 1], [1, [1]], [1, "?"]]:
            self.fails(BadPart, "numbers", filled_in, [("add", "b", "?", "?")], numbers)
            self.fails(BadPart, "numbers", filled_in, [("fill", "a", "?"), ("drop", "a"), ("fill", "b", "?")], numbers)
        for value in STRANGE:
            self.fails(BadPart, "numbers", filled_in, [("fill", "a", "?")], [value])


class Explained(Case):

    def setUp(self):
        self.history = History(COLUMNS, [("rename", "b", "c"), ("greatest", "a", 5, "refuse"), ("fill", "a", 3)])
        self.row = (0, ((0, None), (1, 2)))

    def test_by_hand(self):
        for edition, told in [(0, {"a": None, "b": 2}), (1, {"a": None, "c": 2}), (2, {"c": 2, "a": None}),
                              (3, {"a": 3, "c": 2})]:
            self.truth(explains(self.history, [(self.row, edition, told)]), True)
            self.truth(explains(self.history, ((self.row, edition, told),) * 3), True)
            for wrong in [{}, {"a": 3}, dict(told, d=0), dict(told, a=4), {"a": told["a"], "d": 2}, {1: 2, 2: 3},
                          dict(told, a=True), dict(told, a=Alike()), dict(told, a=[3]), dict(told, a="3")]:
                self.truth(explains(self.history, [(self.row, edition, wrong)]), False, wrong)
                self.truth(explains(self.history, [(self.row, edition, told), (self.row, edition, wrong)]), False)
        self.truth(explains(self.history, []), True)
        self.truth(explains(self.history, ()), True)

    def test_a_truth_is_no_number(self):
        self.truth(explains(History([Column("a", 1)]), [((0, ((0, 1),)), 0, {"a": 1})]), True)
        self.truth(explains(History([Column("a", 1)]), [((0, ((0, 1),)), 0, {"a": True})]), False)
        self.truth(explains(History([Column("a", 1)]), [((0, ((0, 0),)), 0, {"a": False})]), False)

    def test_editions(self):
        row = (2, ((0, 1), (1, 0)))
        self.truth(explains(self.history, [(row, 2, {"a": 1, "c": 0})]), True)
        self.truth(explains(self.history, [(row, 3, {"a": 1, "c": 0})]), True)
        for edition in [-1, 0, 1, 4, 100]:
            self.truth(explains(self.history, [(row, edition, {"a": 1, "c": 0})]), False)

    def test_barred_rows(self):
        row = (0, ((0, 7), (1, 2)))
        self.truth(explains(self.history, [(row, 1, {"a": 7, "c": 2})]), True)
        for told in [{"a": 7, "c": 2}, {"a": 5, "c": 2}, {"a": None, "c": 2}, {}]:
            self.truth(explains(self.history, [(row, 2, told)]), False)
            self.truth(explains(self.history, [(row, 3, told)]), False)

    def test_what_is_no_row(self):
        for row in STRANGE + [None, 0, list(self.row), (0, ((0, 10), (1, 2))), (0, ((0, None),)), (True, self.row[1]),
                              (3, ((0, 6), (1, 2))), (4, self.row[1])]:
            for edition in range(4):
                self.truth(explains(self.history, [(row, edition, {"a": None, "b": 2})]), False)

    def test_errors(self):
        for value in NO_LISTS:
            self.fails(BadRow, None, explains, self.history, value)
        for value in no_sightings(self.row):
            self.fails(BadRow, 0, explains, self.history, [value])
            self.fails(BadRow, 2, explains, self.history, ((self.row, 0, {}), (None, 9, {}), value, None))


def no_sightings(row):
    told = {"a": None, "b": 2}
    return STRANGE + [None, 0, (row, 0), (row, 0, told, told), [row, 0, told], (0, row, told), (row, told, 0), row,
                      (row, None, told), (row, True, told), (row, "0", told), (row, 0, None), (row, 0, [("a", None)]),
                      (row, 0, ()), (row, Alike(), told), (row, 0, Alike())]


def is_explained(first, changes, sightings):
    """Whether sightings of stored rows are explained, by the model."""
    there = model.editions(first, changes)
    for (at, values), edition, told in sightings:
        if at >= len(there) or edition >= len(there) or edition < at:
            return False
        columns = there[at]
        if [number for number, _ in values] != [column[1] for column in columns]:
            return False
        row = {column[0]: value for column, (_, value) in zip(columns, values)}
        if any(row[name] not in model.values_of(greatest) for name, _, greatest, _ in columns):
            return False
        trail = model.trail(there, changes, at, row)
        if edition - at >= len(trail) or trail[edition - at] != told:
            return False
    return True


def all_fillings(first, changes, sightings, most):
    """All lists of changes with numbers in the blanks that can be and explain the sightings, by the numbers."""
    found = []
    for numbers in itertools.product(range(most + 1), repeat=sum(change.count("?") for change in changes)):
        rest = list(numbers)
        filled = [tuple(rest.pop(0) if part == "?" else part for part in change) for change in changes]
        fits = all(is_change(change) for change in filled)
        if fits and model.editions(first, filled) is not None and is_explained(first, filled, sightings):
            found.append(filled)
    return found


class Filled(Case):

    def test_by_hand(self):
        row = (0, ((0, None), (1, 4)))
        changes = [("fill", "a", "?"), ("greatest", "b", "?", "cut")]
        found = fillings(COLUMNS, changes, [(row, 1, {"a": 7, "b": 4})])
        self.same(found, [History(COLUMNS, [("fill", "a", 7), ("greatest", "b", most, "cut")]) for most in range(1, 10)])
        found = fillings(COLUMNS, changes, [(row, 2, {"a": 7, "b": 2})])
        self.same(found, [History(COLUMNS, [("fill", "a", 7), ("greatest", "b", 2, "cut")])])
        self.same(fillings(COLUMNS, changes, [(row, 2, {"a": None, "b": 2})]), [])
        self.same(fillings(COLUMNS, changes, [(None, 2, {})]), [])
        self.assertEqual(len(fillings(COLUMNS, changes, [])), 90)
        self.assertEqual(len(fillings(COLUMNS, changes, [], most=2)), 3 * 2)
        self.assertEqual(len(fillings(COLUMNS, changes, [], most=99)), 10 * 99)

    def test_without_blanks(self):
        self.same(fillings(COLUMNS, [], []), [History(COLUMNS)])
        self.same(fillings(tuple(COLUMNS), (("drop", "a"),), (), most=0), [History(COLUMNS, [("drop", "a")])])
        self.same(fillings(COLUMNS, [("drop", "c")], []), [])

    def test_what_cannot_be(self):
        self.same([history[0][2] for history in fillings(COLUMNS, [("default", "b", "?")], [])], [0, 1, 2, 3, 4])
        self.same([history[0][2:] for history in fillings(COLUMNS, [("add", "c", "?", "?")], [], most=2)],
                  [(1, 0), (1, 1), (2, 0), (2, 1), (2, 2)])
        found = fillings(COLUMNS, [("default", "b", "?"), ("greatest", "b", "?", "refuse")], [], most=4)
        self.same([(history[0][2], history[1][2]) for history in found],
                  [(one, other) for one in range(5) for other in range(1, 5) if one <= other])

    def test_rows_of_added_columns(self):
        row = (1, ((0, 0), (1, 0), (2, 3)))
        found = fillings(COLUMNS, [("add", "c", "?", 0), ("greatest", "c", "?", "cut")], [(row, 2, {"a": 0, "b": 0, "c": 2})])
        self.same([(history[0][2], history[1][2]) for history in found], [(most, 2) for most in range(3, 10)])

    def test_drawn(self):
        chance = random.Random(43)
        many = []
        for _ in range(250):
            first, changes, there = model.drawn_history(chance, chance.randint(1, 4), 3)
            history = history_of(first, changes)
            sightings = []
            for _ in range(chance.randint(0, 3)):
                edition = chance.randint(0, len(changes))
                row = chance.choice(model.rows_of(there[edition]))
                trail = model.trail(there, changes, edition, row)
                at = chance.randrange(len(trail))
                told = dict(trail[at])
                if chance.random() < 0.1:
                    told[chance.choice(list(told))] = chance.choice([None, 0, 1, 2])
                sightings.append((store(history, row, edition=edition), edition + at, told))
            blank = [tuple("?" if isinstance(part, int) and chance.random() < 0.6 else part for part in change)
                     for change in changes]
            while blanks_in(blank) > 3:
                at = chance.randrange(len(blank))
                blank[at] = changes[at]
            most = chance.randint(0, 3)
            with self.subTest(first=first, blank=blank, sightings=sightings, most=most):
                wanted = all_fillings(first, blank, sightings, most)
                columns = history.first_columns()
                self.same(fillings(columns, blank, sightings, most=most), [history_of(first, told) for told in wanted])
                self.check_sure(columns, first, blank, sightings, most, wanted)
                many.append(len(wanted))
        self.assertGreater(many.count(1), 20)
        self.assertGreater(many.count(0), 20)
        self.assertGreater(max(many), 10)

    def check_sure(self, columns, first, blank, sightings, most, wanted):
        chance = random.Random(44)
        for _ in range(6):
            edition = chance.randint(0, len(blank))
            at = chance.randint(0, edition)
            there = model.editions(first, wanted[0])[at] if wanted else first
            row = model.stored_of(there, at, chance.choice(model.rows_of(there)))
            reads = []
            for changes in wanted:
                told = model.editions(first, changes)
                values = {column[0]: value for column, (_, value) in zip(told[at], row[1])}
                if all(values[name] in model.values_of(greatest) for name, _, greatest, _ in told[at]):
                    trail = model.trail(told, changes, at, values)
                    reads += trail[edition - at:edition - at + 1]
            names = list(reads[0]) if reads else []
            sure = {name: reads[0][name] for name in names if len({read[name] for read in reads}) == 1}
            self.same(sure_reads(columns, blank, sightings, row, edition, most=most), sure)


class Sure(Case):

    def setUp(self):
        self.row = (0, ((0, None), (1, 4)))
        self.changes = [("fill", "a", "?"), ("greatest", "b", "?", "cut")]

    def test_by_hand(self):
        seen = [(self.row, 1, {"a": 7, "b": 4})]
        self.same(sure_reads(COLUMNS, self.changes, seen, self.row, 2), {"a": 7})
        self.same(sure_reads(COLUMNS, self.changes, seen, self.row, 0), {"a": None, "b": 4})
        self.same(sure_reads(COLUMNS, self.changes, seen, (0, ((0, 3), (1, 1))), 2), {"a": 3, "b": 1})
        self.same(sure_reads(COLUMNS, self.changes, [], self.row, 2), {})
        self.same(sure_reads(COLUMNS, self.changes, [], self.row, 2, most=0), {})
        self.same(sure_reads(COLUMNS, self.changes, [], (0, ((0, 0), (1, 4))), 2), {"a": 0})
        self.assertEqual(list(sure_reads(COLUMNS, self.changes, seen, (0, ((0, 3), (1, 1))), 2)), ["a", "b"])

    def test_most_is_nine_if_it_is_left_out(self):
        columns, row = [Column("a", 20)], (0, ((0, None),))
        changes = [("greatest", "a", "?", "none"), ("fill", "a", "?")]
        self.assertEqual({history[0][2] for history in fillings(columns, changes, [])}, set(range(1, 10)))
        seen = [(row, 2, {"a": 9})]
        self.same(sure_reads(columns, changes, seen, (0, ((0, 10),)), 1), {"a": None})
        self.same(sure_reads(columns, changes, seen, (0, ((0, 10),)), 1, most=10), {})
        self.same(sure_reads(columns, changes, seen, row, 2), {"a": 9})
        self.same(sure_reads(columns, changes, seen, row, 2, most=8), {})

    def test_by_those_alone_that_have_the_row(self):
        changes = [("add", "c", "?", 0), ("greatest", "c", 2, "refuse"), ("fill", "a", 1)]
        # 3 is a value of c up to edition 1 alone, and there only if its greatest value is 3 or more.
        row = (1, ((0, None), (1, 0), (2, 3)))
        self.same(sure_reads(COLUMNS, changes, [], row, 1), {"a": None, "b": 0, "c": 3})
        self.same(sure_reads(COLUMNS, changes, [], row, 1, most=2), {})
        self.same(sure_reads(COLUMNS, changes, [], row, 2), {})
        self.same(sure_reads(COLUMNS, changes, [], (1, ((0, None), (1, 0), (2, 2))), 3), {"a": 1, "b": 0, "c": 2})

    def test_nothing_is_sure(self):
        self.same(sure_reads(COLUMNS, self.changes, [(None, 0, {})], self.row, 0), {})
        for row in STRANGE + [None, 0, list(self.row), (3, self.row[1]), (0, ((0, None), (1, 5)))]:
            self.same(sure_reads(COLUMNS, self.changes, [], row, 0), {})
        for edition in STRANGE + [None, -1, 3, "0"]:
            self.same(sure_reads(COLUMNS, self.changes, [], self.row, edition), {})
        self.same(sure_reads(COLUMNS, self.changes, [], (1, ((0, None), (1, 4))), 0), {})


class Errors(Case):

    def calls(self):
        yield fillings
        yield lambda columns, changes, sightings, **more: sure_reads(columns, changes, sightings, None, None, **more)

    def test_most(self):
        for call in self.calls():
            for value in STRANGE + [None, -1, 100, "9"]:
                self.fails(BadPart, "most", call, None, None, None, most=value)
                self.fails(BadPart, "most", call, COLUMNS, [], [], most=value)

    def test_columns(self):
        for call in self.calls():
            for value in NO_LISTS + [[], ()]:
                self.fails(BadColumn, None, call, value, None, None)
            for value in STRANGE + [None, Column("a", 1)]:
                self.fails(BadColumn, 2, call, COLUMNS + [value], None, None)
            self.fails(TooMany, 6, call, [Column(name, 1) for name in "abcdefg"], None, None)

    def test_changes(self):
        for call in self.calls():
            for value in NO_LISTS:
                self.fails(BadChange, None, call, COLUMNS, value, None)
            for value in NO_CHANGES:
                self.fails(BadChange, 1, call, COLUMNS, [("drop", "z"), value] + [("fill", "a", "?")] * 50, None)

    def test_sightings(self):
        many = [("fill", "a", "?")] * 50
        for call in self.calls():
            for value in NO_LISTS:
                self.fails(BadRow, None, call, COLUMNS, many, value)
            for value in no_sightings((0, ((0, 0), (1, 0)))):
                self.fails(BadRow, 1, call, COLUMNS, many, [(None, 0, {}), value])

    def test_too_many(self):
        blank, change = ("fill", "a", "?"), ("fill", "a", 1)
        for call in self.calls():
            self.fails(TooMany, 40, call, COLUMNS, [blank] * 41, [], most=99)
            self.fails(TooMany, 40, call, COLUMNS, [change] * 41, [])
            self.fails(TooMany, 3, call, COLUMNS, [change] * 36 + [blank] * 4, [], most=99)
            self.fails(TooMany, 3, call, COLUMNS, [("add", "c", "?", "?"), blank, blank], [], most=0)
            self.fails(TooMany, 20000, call, COLUMNS, [blank] * 3, [], most=27)
            self.fails(TooMany, 20000, call, COLUMNS, [blank] * 3, [], most=99)
        self.assertEqual(len(fillings(COLUMNS, [blank] * 3, [], most=26)), 1000)
        self.assertEqual(len(fillings([Column("a", 99)], [blank] * 2, [], most=99)), 10000)
        self.assertEqual(len(fillings(COLUMNS, [change] * 37 + [blank] * 3, [], most=1)), 8)


class Example(Case):

    def test_by_name(self):
        self.truth(is_blank_change(value=("drop", "a")), True)
        self.same(blanks_in(changes=BLANKS[:2]), 2)
        self.same(filled_in(numbers=[3], changes=[("fill", "a", "?")]), [("fill", "a", 3)])
        self.truth(explains(sightings=[], history=History(COLUMNS)), True)
        self.same(fillings(most=0, sightings=[], changes=[("fill", "a", "?")], columns=COLUMNS),
                  [History(COLUMNS, [("fill", "a", 0)])])
        self.same(sure_reads(most=0, edition=1, row=(0, ((0, None), (1, 2))), sightings=[], changes=[("fill", "a", "?")],
                             columns=COLUMNS), {"a": 0, "b": 2})


if __name__ == "__main__":
    unittest.main()
