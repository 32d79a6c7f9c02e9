import itertools
import random
import unittest

from editionrows.columns import Column
from editionrows.covers import go_together, least_cover
from editionrows.errors import BadPair, TooMany
from editionrows.histories import History
from editionrows.maps import is_dead
from editionrows.twotables import least_pair_cover, pairs_together
from tests import model
from tests.helpers import NO_LISTS, STRANGE, Case, history_of

# 0 and 1 go together, and 2 with them but for None.
FILLED = History([Column("a", 2)], [("default", "a", 1), ("fill", "a", 1)])
CUT = History([Column("a", 3, 0)], [("greatest", "a", 2, "cut"), ("greatest", "a", 3, "none")])
DEAD = History([Column("a", 2, 0)], [("add", "b", 2, 2), ("default", "b", 0), ("greatest", "b", 1, "refuse")])
SAME = History([Column("a", 1)], [("default", "a", 0)] * 20)


def drawn(chance):
    """A drawn History, now and then one with dead editions."""
    if chance.random() < 0.2:
        return History(DEAD.first_columns(), DEAD.changes_told() + [("fill", "b", chance.randint(0, 1)), ("fill", "a", 1)])
    return history_of(*model.drawn_history(chance, chance.randint(0, 5), 2)[:2])


class Together(Case):

    def test_by_hand(self):
        self.truth(pairs_together(FILLED, CUT, (0, 0), (1, 1)), True)
        self.truth(pairs_together(FILLED, CUT, (0, 0), (2, 1)), False)
        self.truth(pairs_together(FILLED, CUT, (0, 0), (1, 2)), False)
        self.truth(pairs_together(FILLED, CUT, (0, 2), (0, 0)), False)
        self.truth(pairs_together(FILLED, CUT, (2, 2), (2, 2)), True)

    def test_dead_pairs(self):
        self.truth(pairs_together(DEAD, FILLED, (1, 0), (2, 1)), True)
        self.truth(pairs_together(DEAD, FILLED, (0, 0), (2, 1)), False)
        self.truth(pairs_together(DEAD, FILLED, (1, 0), (0, 1)), False)
        self.truth(pairs_together(DEAD, FILLED, (0, 0), (0, 0)), False)
        self.truth(pairs_together(FILLED, DEAD, (0, 0), (0, 0)), False)
        self.truth(pairs_together(FILLED, DEAD, (0, 3), (0, 0)), False)

    def test_drawn_histories(self):
        chance = random.Random(31)
        dead = 0
        for _ in range(25):
            one, other = drawn(chance), drawn(chance)
            pairs = list(itertools.product(range(len(one) + 1), range(len(other) + 1)))
            dead += sum(is_dead(one, first) or is_dead(other, second) for first, second in pairs)
            ones = {pair: go_together(one, *pair) for pair in itertools.product(range(len(one) + 1), repeat=2)}
            others = {pair: go_together(other, *pair) for pair in itertools.product(range(len(other) + 1), repeat=2)}
            for first, second in itertools.product(pairs, repeat=2):
                wanted = ones[first[0], second[0]] and others[first[1], second[1]]
                self.truth(pairs_together(one, other, first, second), wanted)
        self.assertGreater(dead, 0)

    def test_errors(self):
        for value in no_pairs():
            self.fails(BadPair, 0, pairs_together, FILLED, SAME, value, (0, 0))
            self.fails(BadPair, 0, pairs_together, FILLED, SAME, value, value)
            self.fails(BadPair, 1, pairs_together, FILLED, SAME, (2, 20), value)
        self.fails(BadPair, 1, pairs_together, DEAD, SAME, (0, 0), (0, 21))


def no_pairs():
    """What is no pair of an edition of FILLED and one of SAME."""
    wrong = STRANGE + [None, -1, "0", "missing"]
    return (wrong + [0, [0, 0], (0, 0, 0), (0,), ((0, 0),), "00", {0: 0, 1: 0}, (3, 0), (0, 21), (20, 2), (-1, 0), (0, -1)]
            + [(value, 0) for value in wrong] + [(0, value) for value in wrong])


class Covers(Case):

    def check(self, one, other, pairs, found):
        alive = sorted({pair for pair in pairs if not is_dead(one, pair[0]) and not is_dead(other, pair[1])})
        together = {(first, second) for first in alive for second in alive if pairs_together(one, other, first, second)}
        self.assertIs(type(found), list)
        self.assertEqual(len(found), model.fewest(together, alive))
        self.assertEqual(sorted(pair for lot in found for pair in lot), alive)
        for lot in found:
            self.same(lot, sorted(lot))
            self.assertGreater(len(lot), 0)
            for both in itertools.combinations(lot, 2):
                self.assertIn(both, together)

    def test_by_hand(self):
        self.same(least_pair_cover(FILLED, CUT, [(1, 1), (0, 0), (1, 1)]), [[(0, 0), (1, 1)]])
        self.same(least_pair_cover(FILLED, CUT, ((1, 1), (2, 1), (0, 0))), [[(0, 0), (1, 1)], [(2, 1)]])
        self.same(least_pair_cover(FILLED, CUT, []), [])
        self.same(least_pair_cover(FILLED, DEAD, [(0, 0), (1, 0)]), [])
        self.same(least_pair_cover(DEAD, FILLED, [(2, 0), (0, 0), (1, 1), (0, 2)]), [[(1, 1), (2, 0)]])

    def test_beside_itself(self):
        for history in [FILLED, CUT, DEAD]:
            editions = list(range(len(history) + 1))
            found = least_pair_cover(history, history, [(edition, edition) for edition in editions])
            self.assertEqual(len(found), len(least_cover(history, editions)))

    def test_drawn_histories(self):
        chance = random.Random(32)
        for _ in range(60):
            one, other = drawn(chance), drawn(chance)
            pairs = [(chance.randint(0, len(one)), chance.randint(0, len(other))) for _ in range(chance.randint(0, 7))]
            pairs += chance.choices(pairs, k=2) if pairs else []
            with self.subTest(one=one.changes_told(), other=other.changes_told(), pairs=pairs):
                found = least_pair_cover(one, other, pairs)
                self.check(one, other, pairs, found)
                chance.shuffle(pairs)
                self.check(one, other, pairs, least_pair_cover(one, other, tuple(pairs)))

    def test_what_is_told_is_kept(self):
        pairs = [(1, 1), (0, 0)]
        found = least_pair_cover(FILLED, CUT, pairs)
        found[0].clear()
        found.clear()
        self.assertEqual(pairs, [(1, 1), (0, 0)])
        self.same(least_pair_cover(FILLED, CUT, pairs), [[(0, 0), (1, 1)]])

    def test_no_pairs(self):
        for value in NO_LISTS:
            self.fails(BadPair, None, least_pair_cover, FILLED, SAME, value)
        for value in no_pairs():
            self.fails(BadPair, 0, least_pair_cover, FILLED, SAME, [value])
            self.fails(BadPair, 2, least_pair_cover, FILLED, SAME, ((2, 20), (0, 0), value, None))

    def test_too_many(self):
        pairs = [(0, edition) for edition in range(12)]
        self.same(least_pair_cover(FILLED, SAME, pairs), [pairs])
        self.same(least_pair_cover(FILLED, SAME, pairs[::-1] + pairs), [pairs])
        self.fails(TooMany, 12, least_pair_cover, FILLED, SAME, pairs + [(1, 0)])
        self.fails(TooMany, 12, least_pair_cover, FILLED, SAME, pairs + [(0, 12), (2, 20)])
        self.fails(BadPair, 13, least_pair_cover, FILLED, SAME, pairs + [(1, 0), (3, 0)])
        dead = [(0, edition) for edition in range(21)]
        alive = [(2, edition) for edition in range(12)]
        self.same(least_pair_cover(DEAD, SAME, dead + alive), [alive])
        self.fails(TooMany, 12, least_pair_cover, DEAD, SAME, dead + alive + [(1, 0)])


class Example(Case):

    def test_by_name(self):
        self.truth(pairs_together(second=(1, 1), first=(0, 0), other=CUT, one=FILLED), True)
        self.same(least_pair_cover(pairs=[(0, 0)], other=CUT, one=FILLED), [[(0, 0)]])


if __name__ == "__main__":
    unittest.main()
