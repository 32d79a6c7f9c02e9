import itertools
import random
import unittest

from editionrows.columns import Column
from editionrows.covers import (Memory, go_together, is_cover, joined_map, least_cover, live_ones, parting_argument)
from editionrows.errors import BadEdition, BadLot, BadRow, TooMany
from editionrows.histories import History
from editionrows.stored import all_stored, followed
from tests import model
from tests.helpers import NO_LISTS, STRANGE, Case, history_of

HISTORY = History([Column("a", 3, 0)], [
    ("greatest", "a", 2, "cut"),        # 1
    ("greatest", "a", 3, "none"),       # 2: 3 is an argument again, and stays
    ("add", "b", 2, None),              # 3
    ("fill", "b", 1),                   # 4
    ("fill", "a", 0),                   # 5
    ("rename", "a", "c"),               # 6
])
DEAD = History([Column("a", 2, 0)], [
    ("add", "b", 3, 2), ("default", "b", 0), ("greatest", "b", 1, "refuse"), ("drop", "b"), ("add", "b", 1, 1),
])
# No two editions of it go together: None leads from each to another value.
PARTED = History([Column("a", 20)], [("fill", "a", value) for value in range(15)])


class Together(Case):

    def test_by_hand(self):
        self.truth(go_together(HISTORY, 0, 1), True)
        self.truth(go_together(HISTORY, 0, 2), False)
        self.truth(go_together(HISTORY, 1, 2), True)
        self.truth(go_together(HISTORY, 0, 6), False)
        self.truth(go_together(HISTORY, 3, 4), False)
        self.truth(go_together(HISTORY, 5, 6), True)
        self.assertIsNone(parting_argument(HISTORY, 0, 1))
        self.same(parting_argument(HISTORY, 0, 2), (0, 3))
        self.same(parting_argument(HISTORY, 2, 0), (0, 3))
        self.same(parting_argument(HISTORY, 0, 6), (0, None))
        self.same(parting_argument(HISTORY, 3, 4), (1, None))
        self.assertIsNone(parting_argument(HISTORY, 6, 6))
        self.truth(go_together(HISTORY, 3, 3), True)

    def test_younger_columns(self):
        # MISSING leads on from the default with which it was added; elder editions agree on it.
        history = History([Column("a", 1)], [("fill", "a", 0), ("add", "b", 1, None), ("fill", "b", 0), ("fill", "b", 1)])
        self.same(parting_argument(history, 0, 1), (0, None))
        self.assertIsNone(parting_argument(history, 1, 2))
        self.same(parting_argument(history, 2, 4), (1, None))
        self.assertIsNone(parting_argument(history, 1, 4))

    def test_dropped_columns_do_not_part(self):
        history = History([Column("a", 1), Column("b", 1)], [("fill", "b", 0), ("drop", "b")])
        for one, other in itertools.product(range(3), repeat=2):
            self.truth(go_together(history, one, other), True)

    def test_dead_ones(self):
        for one in range(6):
            self.truth(go_together(DEAD, 0, one), False)
            self.truth(go_together(DEAD, one, 0), False)
            self.assertIsNone(parting_argument(DEAD, 0, one))
            self.assertIsNone(parting_argument(DEAD, one, 0))
        self.truth(go_together(DEAD, 1, 5), True)
        # Their maps of a differ, but no row of the dead one is read.
        history = DEAD.then(("fill", "a", 1))
        self.assertIsNone(parting_argument(history, 0, 6))
        self.assertIsNone(parting_argument(history, 6, 0))
        self.same(parting_argument(history, 1, 6), (0, None))

    def test_errors(self):
        for call in [go_together, parting_argument]:
            for edition in STRANGE + [None, -1, 7, "0"]:
                self.fails(BadEdition, edition, call, HISTORY, edition, 0)
                self.fails(BadEdition, edition, call, HISTORY, edition, -3)
                self.fails(BadEdition, edition, call, HISTORY, 0, edition)
                self.fails(BadEdition, edition, call, HISTORY, 6, edition)
            self.fails(BadEdition, 6, call, DEAD, 0, 6)
            self.fails(BadEdition, 6, call, DEAD, 6, 0)


class Lists(Case):

    def test_live_ones(self):
        self.same(live_ones(HISTORY, [3, 0, 3, 6, 0]), [0, 3, 6])
        self.same(live_ones(HISTORY, (3, 0)), [0, 3])
        self.same(live_ones(HISTORY, []), [])
        self.same(live_ones(DEAD, [5, 0, 1, 0]), [1, 5])
        self.same(live_ones(DEAD, [0, 0]), [])
        told = [3, 0]
        live_ones(HISTORY, told).clear()
        self.assertEqual(told, [3, 0])

    def test_errors(self):
        calls = [live_ones, joined_map, least_cover, Memory, lambda history, editions: is_cover(history, editions, []),
                 lambda history, editions: is_cover(history, editions, None)]
        for call in calls:
            for value in NO_LISTS:
                self.fails(BadEdition, None, call, HISTORY, value)
            for edition in STRANGE + [None, -1, 7, "0"]:
                self.fails(BadEdition, edition, call, HISTORY, [edition])
                self.fails(BadEdition, edition, call, HISTORY, [0, 0, edition, None, 8])
                self.fails(BadEdition, edition, call, HISTORY, (3, edition))


class Joined(Case):

    def test_by_hand(self):
        found = joined_map(HISTORY, [1, 0, 1])
        self.same(found, {0: {None: 0, 0: 0, 1: 1, 2: 2, 3: 2}, 1: {"missing": 1}})
        self.same(joined_map(HISTORY, [2, 3, 1]), {0: {None: 0, 0: 0, 1: 1, 2: 2, 3: 3},
                                                   1: {"missing": 1, None: 1, 0: 0, 1: 1, 2: 2}})
        found = joined_map(HISTORY, (3, 1))
        self.assertEqual(list(found), [0, 1])
        self.assertEqual([list(each) for each in found.values()], [[None, 0, 1, 2, 3], ["missing", None, 0, 1, 2]])

    def test_ascending_though_joined_of_many(self):
        history = History([Column("a", 1)], [("greatest", "a", 4, "cut"), ("add", "b", 1, 0)])
        for editions in itertools.permutations(range(3)):
            found = joined_map(history, list(editions))
            self.assertEqual([list(each) for each in found.values()], [[None, 0, 1, 2, 3, 4], ["missing", None, 0, 1]])

    def test_of_none(self):
        self.same(joined_map(HISTORY, []), {})
        self.same(joined_map(DEAD, [0, 0]), {})
        self.same(joined_map(DEAD, [0, 5]), joined_map(DEAD, [5]))

    def test_what_does_not_go_together(self):
        self.fails(BadLot, (0, 2), joined_map, HISTORY, [2, 0, 1])
        self.fails(BadLot, (0, 2), joined_map, HISTORY, [6, 2, 0])
        self.fails(BadLot, (1, 5), joined_map, HISTORY, [6, 5, 1])
        self.fails(BadLot, (3, 4), joined_map, HISTORY, [4, 3, 4])

    def test_what_is_told_is_new(self):
        joined_map(HISTORY, [0])[0].clear()
        self.assertEqual(joined_map(HISTORY, [0])[0], {None: 0, 0: 0, 1: 1, 2: 2, 3: 2})


def drawn(seed, many, longest=6, greatest=2):
    """Tuples (first columns, changes, columns at each edition, History)."""
    chance = random.Random(seed)
    for _ in range(many):
        first, changes, there = model.drawn_history(chance, chance.randint(0, longest), greatest)
        yield first, changes, there, history_of(first, changes)


class Model(Case):

    def test_pairs(self):
        for first, changes, there, history in drawn(15, 150):
            with self.subTest(first=first, changes=changes):
                alive = model.live(there, changes)
                pairs = model.together(there, changes)
                for one, other in itertools.product(range(len(there)), repeat=2):
                    self.truth(go_together(history, one, other), (one, other) in pairs)
                    dead = one not in alive or other not in alive
                    parting = None if dead else model.parting(there, changes, one, other)
                    self.assertEqual(parting_argument(history, one, other), parting)

    def test_joined(self):
        chance = random.Random(16)
        for first, changes, there, history in drawn(17, 150):
            pairs = model.together(there, changes)
            editions = chance.sample(range(len(there)), chance.randint(0, min(4, len(there))))
            alive = sorted(set(editions) & set(model.live(there, changes)))
            wrong = [pair for pair in itertools.combinations(alive, 2) if pair not in pairs]
            if wrong:
                self.fails(BadLot, wrong[0], joined_map, history, editions)
                continue
            wanted = {}
            for edition in alive:
                for number in sorted(column[1] for column in there[-1]):
                    wanted.setdefault(number, {}).update(model.lead(there, changes, number, edition))
            self.same(joined_map(history, editions), wanted)

    def test_covers(self):
        chance = random.Random(18)
        for first, changes, there, history in drawn(19, 120):
            with self.subTest(first=first, changes=changes):
                pairs = model.together(there, changes)
                editions = [chance.randrange(len(there)) for _ in range(chance.randint(0, 8))]
                alive = sorted(set(editions) & set(model.live(there, changes)))
                found = least_cover(history, editions)
                self.assertIs(type(found), list)
                self.assertEqual(len(found), model.fewest(pairs, alive))
                self.truth(is_cover(history, editions, found), True)
                for lots in model.partings(alive[:5]):
                    fits = all((one, other) in pairs for lot in lots for one in lot for other in lot)
                    self.truth(is_cover(history, alive[:5], lots), fits)
                self.assertEqual(sorted(edition for lot in found for edition in lot), alive)
                for lot in found:
                    self.assertEqual(sorted(set(lot)), lot)
                    for pair in itertools.combinations(lot, 2):
                        self.assertIn(pair, pairs)


class Covers(Case):

    def test_by_hand(self):
        self.same(least_cover(HISTORY, []), [])
        self.same(least_cover(HISTORY, [4, 4]), [[4]])
        self.same(least_cover(DEAD, [0]), [])
        self.same(sorted(least_cover(DEAD, [0, 1, 2, 3, 4, 5])), [[1, 2, 3, 4, 5]])
        self.assertEqual(len(least_cover(HISTORY, [0, 1, 2, 3, 4, 5, 6])), 4)

    def test_where_the_first_lot_that_fits_is_the_wrong_one(self):
        # 1 goes with 6 and 7, 5 with 6 alone: 6 must not go to 1.
        history = History([Column("a", 3), Column("b", 4)], [
            ("greatest", "b", 2, "cut"), ("fill", "b", 2), ("greatest", "a", 2, "cut"), ("greatest", "b", 1, "refuse"),
            ("greatest", "a", 4, "none"), ("greatest", "a", 2, "none"), ("fill", "b", 1), ("greatest", "b", 3, "none")])
        self.same(least_cover(history, [1, 5, 6, 7]), [[1, 7], [5, 6]])
        self.truth(go_together(history, 1, 6), True)
        history = History([Column("a", 2), Column("b", 3)], [
            ("default", "a", 1), ("fill", "b", 2), ("greatest", "b", 1, "none"), ("default", "a", 0), ("fill", "a", 2),
            ("greatest", "a", 1, "refuse"), ("greatest", "b", 4, "none"), ("greatest", "b", 1, "cut"), ("fill", "a", 1)])
        self.assertEqual(len(least_cover(history, [0, 1, 2, 3, 5, 7, 9])), 2)

    def test_too_many(self):
        history = History([Column("a", 1)], [("default", "a", 0)] * 20)
        self.same(least_cover(history, list(range(12))), [list(range(12))])
        self.same(least_cover(history, list(range(12)) * 3), [list(range(12))])
        for call in [least_cover, Memory]:
            self.fails(TooMany, 12, call, history, list(range(13)))
            self.fails(TooMany, 12, call, history, list(range(21)))
            self.fails(BadEdition, 21, call, history, list(range(22)))
        self.truth(is_cover(history, list(range(21)), [list(range(21))]), True)
        dead = History([Column("a", 1)], [("default", "a", 0)] * 5 + [("add", "b", 2, 2), ("default", "b", 0),
                                                                    ("greatest", "b", 1, "refuse")]
                       + [("default", "a", 1)] * 5)
        self.same(least_cover(dead, list(range(14))), [list(range(6, 14))])

    def test_what_is_no_cover(self):
        editions = [0, 1, 4, 0]
        self.truth(is_cover(HISTORY, editions, [[0, 1], [4]]), True)
        self.truth(is_cover(HISTORY, editions, [[4], [0, 1]]), True)
        self.truth(is_cover(HISTORY, editions, [[4], [0], [1]]), True)
        for value in STRANGE + [None, 0, ([0, 1], [4]), [(0, 1), [4]], [[0, 1], (4,)], ((0, 1), (4,)), [[1, 0], [4]],
                                [[0, 1]], [[4]], [[0], [4]], [], [[0, 1], [4], []], [[0, 1], [4], [4]], [[0, 1], [1], [4]],
                                [[0, 0, 1], [4]], [[0, 1], [4, 4]], [[0, 1], [4], [5]], [[0, 1], [4, 5]], [[0, 1, 4]],
                                [[0, 4], [1]], [[False, True], [4]], [[0, True], [4]], [[0, 1], [4], None], [0, 1, 4],
                                [[0, 1], 4], [[0, 1], [None]], [[0, 1], ["4"]], [[[0, 1]], [4]], {0: [0, 1], 1: [4]},
                                [{0: 0, 1: 1}, [4]], [[0, 1], {4}], "014", [[0, 1], [4, 9]], [[-1, 0, 1], [4]]]:
            self.truth(is_cover(HISTORY, editions, value), False, value)

    def test_dead_ones_are_in_no_lot(self):
        self.truth(is_cover(DEAD, [0, 1, 5], [[1, 5]]), True)
        self.truth(is_cover(DEAD, [0, 1, 5], [[1, 5], [0]]), False)
        self.truth(is_cover(DEAD, [0, 1, 5], [[0], [1, 5]]), False)
        self.truth(is_cover(DEAD, [0], []), True)
        self.truth(is_cover(DEAD, [0], [[0]]), False)
        self.truth(is_cover(DEAD, [], []), True)

    def test_what_is_told_is_new(self):
        least_cover(HISTORY, [0, 1])[0].clear()
        self.same(least_cover(HISTORY, [0, 1]), [[0, 1]])

    def test_all_apart(self):
        self.same(least_cover(PARTED, list(range(12))), [[edition] for edition in range(12)])
        self.same(parting_argument(PARTED, 15, 3), (0, None))

    def test_many_columns(self):
        # Each column parts the editions once more, elsewhere: the lots are what lies between.
        columns = [Column(name, 3) for name in "abcdef"]
        changes = [("fill", name, value) for value in range(2) for name in "abcdef"]
        history = History(columns, changes)
        pairs = {(one, other) for one in range(13) for other in range(13) if go_together(history, one, other)}
        for editions in [range(7), range(6), range(4, 11), range(0, 13, 2)]:
            self.assertEqual(len(least_cover(history, list(editions))), model.fewest(pairs, editions))


class Remembered(Case):

    def test_lots(self):
        memory = Memory(HISTORY, [6, 0, 1, 0])
        self.assertEqual(len(memory), 2)
        self.same(memory.lots(), least_cover(HISTORY, [0, 1, 6]))
        memory.lots().clear()
        memory.lots()[0].clear()
        self.same(memory.lots(), least_cover(HISTORY, [0, 1, 6]))
        self.assertEqual(len(Memory(DEAD, [0])), 0)
        self.same(Memory(DEAD, []).lots(), [])

    def test_editions_may_be_spoilt(self):
        editions = [0, 1]
        memory = Memory(HISTORY, editions)
        editions.clear()
        self.same(memory.lots(), [[0, 1]])
        self.same(memory.read((0, ((0, 3),))), {"c": 2, "b": 1})

    def test_equality(self):
        memory = Memory(HISTORY, [0, 1])
        self.truth(memory == Memory(HISTORY, (1, 0, 1)), True)
        self.truth(memory != Memory(HISTORY, (1, 0, 1)), False)
        self.truth(memory == Memory(HISTORY, [0]), False)
        self.truth(memory == Memory(HISTORY.then(("default", "b", 1)), [0, 1]), False)
        self.truth(memory == Memory(History(HISTORY.first_columns(), HISTORY.changes_told()), [0, 1]), True)
        self.truth(Memory(DEAD, [1]) == Memory(DEAD, [0, 1]), True)
        for value in [None, 0, [[0, 1]], HISTORY, (), "memory"]:
            self.truth(memory == value, False)
            self.truth(memory != value, True)

    def test_read_is_in_order(self):
        self.assertEqual(list(Memory(HISTORY, [0]).read((0, ((0, 3),)))), ["c", "b"])
        memory = Memory(HISTORY, [0])
        memory.read((0, ((0, 3),))).clear()
        self.same(memory.read((0, ((0, 3),))), {"c": 2, "b": 1})

    def test_no_row(self):
        memory = Memory(HISTORY, [0, 4])
        for row in STRANGE + [None, 0, (0, ((0, 4),)), (0, ((0, True),)), (0, ((0, 1), (1, 1))), [0, ((0, 1),)],
                              (1, ((0, 1),)), (6, ((0, 1), (1, 1))), (7, ((0, 1), (1, 1))), (None, ((0, 1),))]:
            self.fails(BadRow, row, memory.read, row)
        self.fails(BadRow, (0, ((0, 1),)), Memory(HISTORY, []).read, (0, ((0, 1),)))

    def test_barred_rows(self):
        for row in all_stored(DEAD, 0):
            self.fails(BadRow, row, Memory(DEAD, [0, 1]).read, row)
        for row in all_stored(DEAD, 1):
            if dict(row[1])[1] in [2, 3]:
                self.fails(BadRow, row, Memory(DEAD, [0, 1]).read, row)
            else:
                self.assertEqual(Memory(DEAD, [0, 1]).read(row), followed(DEAD, row))

    def test_all_rows_of_small_histories(self):
        for first, changes, there, history in drawn(20, 80, 5):
            for editions in [list(range(len(there))), list(range(0, len(there), 2))]:
                memory = Memory(history, editions)
                self.assertEqual(len(memory), len(least_cover(history, editions)))
                for edition in range(len(there)):
                    for row in all_stored(history, edition):
                        read = followed(history, row)
                        if edition in editions and read is not None:
                            self.same(memory.read(row), read)
                        else:
                            self.fails(BadRow, row, memory.read, row)


class Example(Case):

    def test_by_name(self):
        self.truth(go_together(other=0, one=1, history=HISTORY), True)
        self.same(parting_argument(other=0, one=2, history=HISTORY), (0, 3))
        self.same(live_ones(editions=[1, 0], history=HISTORY), [0, 1])
        self.assertEqual(list(joined_map(editions=[1, 0], history=HISTORY)), [0, 1])
        self.same(least_cover(editions=[1, 0], history=HISTORY), [[0, 1]])
        self.truth(is_cover(value=[[0, 1]], editions=[1, 0], history=HISTORY), True)
        self.same(Memory(editions=[1, 0], history=HISTORY).read(row=(0, ((0, 3),))), {"c": 2, "b": 1})


if __name__ == "__main__":
    unittest.main()
