import unittest

from editionrows.columns import Column
from editionrows.errors import BadColumn, BadEdition, BadPart, BadRow, BadValue
from editionrows.histories import History
from editionrows.maps import Map, arguments_of, is_dead, map_of, maps_of, read_row
from editionrows.stored import all_stored, barred_at
from tests.helpers import STRANGE, Alike, Case

# What is no argument, and what can be a key of a dict.
NO_ARGUMENTS = STRANGE + [-1, -2, "a", "Missing"]
NO_KEYS = [True, False, -1, -2, "", "a", "Missing", "none", b"missing", (), (0,), ("missing",), object()]
NO_VALUES = [True, False, -1, "missing", "0", [], [0], (), (0,), {}, object(), Alike(), Map({})]


def pairs_of(one):
    return {argument: one(argument) for argument in one.arguments()}


class Maps(Case):

    def test_calls_and_items(self):
        one = Map({"missing": 3, None: None, 0: 5, 7: 0})
        for argument, value in [("missing", 3), (None, None), (0, 5), (7, 0)]:
            self.same(one(argument), value)
            self.same(one[argument], value)
            self.truth(argument in one, True)
        self.assertEqual(len(one), 4)
        self.assertEqual(len(Map({})), 0)

    def test_what_it_has_not(self):
        for one in [Map({"missing": 3, None: None, 0: 5, 1: 1}), Map({2: 2}), Map({})]:
            for argument in NO_ARGUMENTS + [3, 100]:
                self.fails(BadValue, argument, one, argument)
                self.fails(BadValue, argument, lambda: one[argument])
                self.truth(argument in one, False)
        for argument in [None, "missing", 0, 1]:
            self.fails(BadValue, argument, Map({2: 2}), argument)
            self.truth(argument in Map({2: 2}), False)

    def test_pairs_are_no_dict(self):
        for pairs in [None, 0, True, "missing", [], (), [(0, 1)], ((0, 1),), object(), Map({}), {0}]:
            self.fails(BadValue, None, Map, pairs)

    def test_no_argument(self):
        for argument in NO_KEYS:
            self.fails(BadValue, argument, Map, {argument: 0})
            self.fails(BadValue, argument, Map, {3: 0, argument: 0, -5: 0})
            self.fails(BadValue, argument, Map, {2: 0, argument: True})

    def test_no_value(self):
        for value in NO_VALUES:
            for argument in [0, 5, None, "missing"]:
                self.fails(BadValue, argument, Map, {argument: value})
                self.fails(BadValue, argument, Map, {3: 0, argument: value, 4: value, "a": 0})

    def test_the_first_wrong_one(self):
        self.fails(BadValue, 4, Map, {0: 0, 4: -1, "a": 0})
        self.fails(BadValue, "a", Map, {0: 0, "a": 0, 4: -1})

    def test_no_iteration(self):
        for one in [Map({}), Map({0: 1, 1: 2})]:
            self.assertRaises(TypeError, iter, one)
            self.assertRaises(TypeError, list, one)
            self.assertRaises(TypeError, lambda: [argument for argument in one])

    def test_arguments_in_order(self):
        one = Map({10: 0, "missing": 0, 2: 0, None: 0, 0: 0})
        self.same(one.arguments(), ["missing", None, 0, 2, 10])
        one.arguments().clear()
        self.same(one.arguments(), ["missing", None, 0, 2, 10])
        self.same(Map({}).arguments(), [])

    def test_pairs_may_be_spoilt(self):
        pairs = {0: 1, None: 2}
        one = Map(pairs)
        self.assertEqual(pairs, {0: 1, None: 2})
        pairs.clear()
        pairs[5] = 5
        self.assertEqual(pairs_of(one), {0: 1, None: 2})

    def test_equality(self):
        one = Map({"missing": 3, None: None, 0: 5})
        self.truth(one == Map({0: 5, None: None, "missing": 3}), True)
        self.truth(one != Map({0: 5, None: None, "missing": 3}), False)
        for other in [{"missing": 3, None: None}, {"missing": 3, None: None, 0: 4}, {"missing": 3, None: 0, 0: 5},
                      {"missing": 3, None: None, 1: 5}, {"missing": 3, None: None, 0: 5, 1: 1}, {}]:
            self.truth(one == Map(other), False)
            self.truth(one != Map(other), True)
        for other in STRANGE + [None, {"missing": 3, None: None, 0: 5}]:
            self.truth(one == other, False)

    def test_within(self):
        one = Map({None: None, 0: 5})
        self.truth(one <= Map({None: None, 0: 5}), True)
        self.truth(one <= Map({None: None, 0: 5, 1: 1, "missing": 0}), True)
        self.truth(Map({}) <= one, True)
        self.truth(Map({}) <= Map({}), True)
        for other in [{}, {None: None}, {0: 5}, {None: None, 0: 4}, {None: 0, 0: 5}, {None: None, 1: 5},
                      {None: None, 0: 4, 1: 1}, {0: 5, 1: 1, 2: 2}]:
            self.truth(one <= Map(other), False)

    def test_within_what_is_no_map(self):
        for other in [None, 0, {0: 5}]:
            self.assertRaises(TypeError, lambda: Map({}) <= other)

    def test_agrees(self):
        one = Map({None: None, 0: 5})
        for other in [{}, {None: None}, {0: 5}, {1: 4}, {0: 5, 1: 1, "missing": 2}, {None: None, 0: 5}]:
            self.truth(one.agrees(Map(other)), True)
            self.truth(Map(other).agrees(one), True)
        for other in [{0: 4}, {None: 0}, {None: None, 0: 0}, {0: None, 1: 1}]:
            self.truth(one.agrees(Map(other)), False)
            self.truth(Map(other).agrees(one), False)

    def test_both(self):
        one = Map({None: None, 0: 5})
        other = Map({0: 5, "missing": 1, 3: 3})
        for found in [one | other, other | one]:
            self.assertIs(type(found), Map)
            self.assertEqual(pairs_of(found), {"missing": 1, None: None, 0: 5, 3: 3})
        self.assertEqual(pairs_of(one), {None: None, 0: 5})
        self.assertEqual(pairs_of(other), {0: 5, "missing": 1, 3: 3})
        self.truth((one | Map({})) == one, True)
        for wrong in [Map({0: 4}), Map({None: 0, 7: 7})]:
            self.fails(BadPart, "other", lambda: one | wrong)
            self.fails(BadPart, "other", lambda: wrong | one)
        for wrong in STRANGE + [None, {0: 5}, 3]:
            self.fails(BadPart, "other", lambda: one | wrong)

    def test_then(self):
        one = Map({"missing": 3, None: None, 0: 5, 1: 2})
        other = Map({3: None, None: 7, 2: 0, "missing": 9, 8: 8})
        self.assertEqual(pairs_of(one.then(other)), {"missing": None, None: 7, 1: 0})
        self.assertIs(type(one.then(other)), Map)
        self.assertEqual(pairs_of(other.then(one)), {3: None, 2: 5})
        self.assertEqual(pairs_of(one.then(Map({}))), {})
        self.assertEqual(pairs_of(Map({}).then(one)), {})
        self.assertEqual(len(one), 4)
        for wrong in STRANGE + [None, {0: 5}, 3]:
            self.fails(BadPart, "other", one.then, wrong)


HISTORY = History([Column("a", 4, 0), Column("b", 2)], [
    ("add", "c", 3, 2),                 # 1: number 2
    ("greatest", "a", 3, "refuse"),     # 2
    ("fill", "b", 2),                   # 3
    ("greatest", "a", 2, "cut"),        # 4
    ("greatest", "b", 1, "refuse"),     # 5: bars 2, and what the fill made of None
    ("default", "c", None),             # 6
    ("drop", "b"),                      # 7
    ("rename", "a", "b"),               # 8
    ("greatest", "c", 1, "none"),       # 9
    ("add", "a", 5, 5),                 # 10: number 3
    ("greatest", "a", 3, "cut"),        # 11
    ("fill", "c", 0),                   # 12
])
NO_EDITIONS = STRANGE + [-1, 13, 100, "0", "missing"]
NO_NUMBERS = STRANGE + [None, -1, 4, 100, "0", "missing"]


class OfHistories(Case):

    def test_arguments_of(self):
        a = [[None, 0, 1, 2, 3]] * 4 + [[None, 0, 1, 2]] * 9
        b = [[0, 1]] * 3 + [[None, 0, 1]] * 4 + [None] * 6
        c = [["missing"]] + [[None, 0, 1, 2, 3]] * 8 + [[None, 0, 1]] * 4
        d = [["missing"]] * 10 + [[None, 0, 1, 2, 3, 4, 5]] + [[None, 0, 1, 2, 3]] * 2
        for number, wanted in enumerate([a, b, c, d]):
            for edition, arguments in enumerate(wanted):
                if arguments is None:
                    self.fails(BadColumn, number, arguments_of, HISTORY, edition, number)
                else:
                    self.assertEqual(arguments_of(HISTORY, edition, number), arguments, (number, edition))
        self.assertEqual(arguments_of(HISTORY, None, 3), [None, 0, 1, 2, 3])
        self.fails(BadColumn, 1, arguments_of, HISTORY, None, 1)

    def test_arguments_are_new(self):
        arguments_of(HISTORY, 0, 0).clear()
        self.assertEqual(arguments_of(HISTORY, 0, 0), [None, 0, 1, 2, 3])

    def test_maps(self):
        self.assertEqual(pairs_of(map_of(HISTORY, 0, 0)), {None: None, 0: 0, 1: 1, 2: 2, 3: 2})
        self.assertEqual(pairs_of(map_of(HISTORY, 3, 0)), {None: None, 0: 0, 1: 1, 2: 2, 3: 2})
        self.assertEqual(pairs_of(map_of(HISTORY, 4, 0)), {None: None, 0: 0, 1: 1, 2: 2})
        # The default with which it was added, not the one that it has by now.
        self.assertEqual(pairs_of(map_of(HISTORY, 0, 2)), {"missing": 0})
        self.assertEqual(pairs_of(map_of(HISTORY, 1, 2)), {None: 0, 0: 0, 1: 1, 2: 0, 3: 0})
        self.assertEqual(pairs_of(map_of(HISTORY, 9, 2)), {None: 0, 0: 0, 1: 1})
        self.assertEqual(pairs_of(map_of(HISTORY, 12, 2)), {None: None, 0: 0, 1: 1})
        self.assertEqual(pairs_of(map_of(HISTORY, None, 2)), {None: None, 0: 0, 1: 1})
        self.assertEqual(pairs_of(map_of(HISTORY, 9, 3)), {"missing": 3})
        self.assertEqual(pairs_of(map_of(HISTORY, 10, 3)), {None: None, 0: 0, 1: 1, 2: 2, 3: 3, 4: 3, 5: 3})
        self.assertIs(type(map_of(HISTORY, 0, 0)), Map)

    def test_maps_of(self):
        for edition in list(range(13)) + [None]:
            found = maps_of(HISTORY, edition)
            self.assertIs(type(found), dict)
            self.assertEqual(list(found), [0, 2, 3])
            for number in [0, 2, 3]:
                self.assertEqual(found[number], map_of(HISTORY, edition, number))
        maps_of(HISTORY, 0).clear()
        self.assertEqual(len(maps_of(HISTORY, 0)), 3)

    def test_what_bars_is_no_argument_of_a_map(self):
        history = History([Column("a", 4)], [("fill", "a", 3), ("greatest", "a", 2, "refuse")])
        self.assertEqual(pairs_of(map_of(history, 0, 0)), {0: 0, 1: 1, 2: 2})
        self.assertEqual(pairs_of(map_of(history, 1, 0)), {None: None, 0: 0, 1: 1, 2: 2})
        self.assertEqual(arguments_of(history, 0, 0), [0, 1, 2])

    def test_no_edition(self):
        for edition in NO_EDITIONS:
            for call in [arguments_of, map_of]:
                self.fails(BadEdition, edition, call, HISTORY, edition, 0)
                self.fails(BadEdition, edition, call, HISTORY, edition, None)
            for call in [is_dead, maps_of]:
                self.fails(BadEdition, edition, call, HISTORY, edition)

    def test_no_number(self):
        for number in NO_NUMBERS:
            for edition in [0, 12, None]:
                self.fails(BadColumn, number, arguments_of, HISTORY, edition, number)
                self.fails(BadColumn, number, map_of, HISTORY, edition, number)
        for edition in list(range(13)) + [None]:
            self.fails(BadColumn, 1, map_of, HISTORY, edition, 1)

    def test_numbers_of_dropped_columns(self):
        history = History([Column("a", 1), Column("b", 1)], [("add", "c", 1, 1), ("drop", "c"), ("drop", "b")])
        self.assertEqual(arguments_of(history, 0, 2), ["missing"])
        self.assertEqual(arguments_of(history, 1, 2), [None, 0, 1])
        self.fails(BadColumn, 2, arguments_of, history, 2, 2)
        self.fails(BadColumn, 2, arguments_of, history, 3, 2)
        self.assertEqual(arguments_of(history, 2, 1), [None, 0, 1])
        self.fails(BadColumn, 1, arguments_of, history, 3, 1)
        self.fails(BadColumn, 1, arguments_of, history, None, 1)
        for edition in range(4):
            self.fails(BadColumn, 2, map_of, history, edition, 2)
            self.assertEqual(list(maps_of(history, edition)), [0])


DEAD = History([Column("a", 2, 0)], [
    ("add", "b", 3, 2), ("default", "b", 0), ("greatest", "b", 1, "refuse"), ("drop", "b"), ("add", "b", 1, 1),
    ("add", "c", 2, None), ("fill", "c", 2), ("default", "c", 0), ("greatest", "c", 1, "refuse"), ("add", "d", 1, 0),
])


class Dead(Case):

    def test_is_dead(self):
        dead = [True, False, False, False, True, True, False, False, False, False, False]
        # The editions 1 to 3 have b, but c is added behind them and barred.
        dead[1] = dead[2] = dead[3] = True
        for edition, wanted in enumerate(dead):
            self.truth(is_dead(DEAD, edition), wanted, edition)
        self.truth(is_dead(DEAD, None), False)
        for edition in range(5):
            self.truth(is_dead(DEAD.up_to(5), edition), edition == 0, edition)
        for edition in range(3):
            self.truth(is_dead(DEAD.up_to(2), edition), False)
        for edition in range(13):
            self.truth(is_dead(HISTORY, edition), False)

    def test_maps_without_arguments(self):
        self.assertEqual(arguments_of(DEAD, 0, 1), [])
        self.assertEqual(arguments_of(DEAD, 1, 1), [None, 0, 1])
        self.assertEqual(arguments_of(DEAD, 5, 3), [])
        self.assertEqual(arguments_of(DEAD, 6, 3), [0, 1])
        self.assertEqual(arguments_of(DEAD, 7, 3), [None, 0, 1])
        self.assertEqual(pairs_of(map_of(DEAD, 5, 3)), {})
        self.assertEqual(len(maps_of(DEAD, 0)[3]), 0)
        self.assertEqual(pairs_of(map_of(DEAD, 0, 2)), {"missing": 1})

    def test_no_row_is_read(self):
        for edition in range(11):
            rows = list(all_stored(DEAD, edition))
            read = [row for row in rows if read_row(DEAD, row) is not None]
            self.assertEqual(read == [], is_dead(DEAD, edition))
            self.assertEqual(read, [row for row in rows if barred_at(DEAD, row) is None])


class Reading(Case):

    def test_read_row(self):
        self.same(read_row(HISTORY, (0, ((0, 3), (1, 1)))), {"b": 2, "c": 0, "a": 3})
        self.assertEqual(list(read_row(HISTORY, (0, ((0, 3), (1, 1))))), ["b", "c", "a"])
        self.same(read_row(HISTORY, (0, ((0, None), (1, 0)))), {"b": None, "c": 0, "a": 3})
        self.same(read_row(HISTORY, (3, ((0, 1), (1, None), (2, 1)))), {"b": 1, "c": 1, "a": 3})
        self.same(read_row(HISTORY, (11, ((0, 1), (2, None), (3, None)))), {"b": 1, "c": 0, "a": None})
        self.same(read_row(HISTORY, (12, ((0, 1), (2, None), (3, 1)))), {"b": 1, "c": None, "a": 1})

    def test_barred_by_a_column_that_is_gone_by_now(self):
        self.assertIsNone(read_row(HISTORY, (0, ((0, 3), (1, 2)))))
        self.assertIsNone(read_row(HISTORY, (0, ((0, 3), (1, None)))))
        self.assertIsNone(read_row(HISTORY, (4, ((0, 2), (1, 2), (2, 0)))))

    def test_barred_by_a_column_that_is_there(self):
        self.assertIsNone(read_row(HISTORY, (0, ((0, 4), (1, 1)))))
        self.assertIsNone(read_row(HISTORY, (1, ((0, 4), (1, 1), (2, 0)))))

    def test_what_is_told_is_new(self):
        row = (0, ((0, 3), (1, 1)))
        read_row(HISTORY, row).clear()
        self.same(read_row(HISTORY, row), {"b": 2, "c": 0, "a": 3})

    def test_no_row(self):
        for row in STRANGE + [None, 0, (0, ((0, 5), (1, 1))), (0, ((0, 3),)), (13, ((0, 1), (2, None), (3, 1))),
                              [0, ((0, 3), (1, 1))], (None, ((0, 1), (2, None), (3, 1)))]:
            self.fails(BadRow, row, read_row, HISTORY, row)


class Example(Case):

    def test_of_the_document(self):
        history = History([Column("a", 2, 0)], [("add", "b", 1, 0), ("fill", "a", 2)])
        found = [map_of(history, 0, 0)(None), map_of(history, 0, 1)("missing"), map_of(history, 0, 0).arguments()]
        self.same(found, [2, 0, [None, 0, 1, 2]])

    def test_by_name(self):
        one = Map(pairs={0: 1})
        self.same(one(argument=0), 1)
        self.truth(one.agrees(other=Map({0: 2})), False)
        self.assertEqual(pairs_of(one.then(other=Map({1: 2}))), {0: 2})
        self.assertEqual(arguments_of(number=2, edition=0, history=HISTORY), ["missing"])
        self.truth(is_dead(edition=0, history=HISTORY), False)
        self.assertEqual(pairs_of(map_of(number=2, edition=0, history=HISTORY)), {"missing": 0})
        self.assertEqual(len(maps_of(edition=0, history=HISTORY)), 3)
        self.same(read_row(row=(0, ((0, 3), (1, 1))), history=HISTORY), {"b": 2, "c": 0, "a": 3})


if __name__ == "__main__":
    unittest.main()
