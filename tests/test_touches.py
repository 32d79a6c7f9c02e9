import itertools
import random
import unittest

from editionrows.columns import Column
from editionrows.errors import BadEdition, BadPart, BadRow, TooMany
from editionrows.histories import History
from editionrows.stored import all_stored, followed, store
from editionrows.touches import is_touch_plan, least_touches, remembered, touch_plan, touched
from tests import model
from tests.helpers import NO_LISTS, STRANGE, Case, history_of

# No two editions of it go together: None leads from each to another value.
PARTED = History([Column("a", 20)], [("fill", "a", value) for value in range(15)])
DEAD = History([Column("a", 2, 0)], [
    ("add", "b", 3, 2), ("default", "b", 0), ("greatest", "b", 1, "refuse"), ("fill", "a", 1), ("rename", "a", "c"),
])
QUESTIONS = [lambda history, rows, most=1, **named: least_touches(history, rows, most, **named),
             lambda history, rows, most=1, **named: touch_plan(history, rows, most, **named),
             lambda history, rows, most=1, **named: is_touch_plan(history, rows, most, [], **named),
             lambda history, rows, most=1, **named: is_touch_plan(history, rows, most, None, **named)]
ALL = QUESTIONS + [lambda history, rows, most=1, **named: remembered(history, rows, **named)]


def of(*editions):
    """A row of PARTED for each edition."""
    return [(edition, ((0, None),)) for edition in editions]


class Touched(Case):

    def test_by_hand(self):
        self.same(touched(PARTED, (3, ((0, None),))), (15, ((0, 3),)))
        self.same(touched(PARTED, (15, ((0, None),))), (15, ((0, None),)))
        self.same(touched(DEAD, (1, ((0, None), (1, 1)))), (5, ((0, 1), (1, 1))))

    def test_no_row(self):
        for row in STRANGE + [None, 0, (3, ((0, 21),)), (3, ((0, True),)), (16, ((0, 0),)), [3, ((0, None),)],
                              (None, ((0, 0),))]:
            self.fails(BadRow, row, touched, PARTED, row)

    def test_barred_rows(self):
        for edition in range(6):
            for row in all_stored(DEAD, edition):
                read = followed(DEAD, row)
                if read is None:
                    self.fails(BadRow, row, touched, DEAD, row)
                else:
                    self.same(touched(DEAD, row), store(DEAD, read))
                    self.assertEqual(followed(DEAD, touched(DEAD, row)), read)


class Many(Case):

    def test_remembered(self):
        self.same(remembered(PARTED, []), 0)
        self.same(remembered(PARTED, of(3, 3, 15)), 2)
        self.same(remembered(PARTED, of(3, 3, 15), [4, 3, 4]), 3)
        self.same(remembered(PARTED, (), (0, 1)), 2)
        self.same(remembered(DEAD, [], [0]), 0)
        self.same(remembered(DEAD, [(1, ((0, 0), (1, 1))), (4, ((0, 0), (1, 1)))], [0, 5]), 2)

    def test_least_touches(self):
        rows = of(3, 1, 3, 15, 1, 2, 3)
        for most, wanted, plan in [(0, None, None), (1, 6, [0, 1, 2, 4, 5, 6]), (2, 3, [1, 4, 5]), (3, 1, [5]), (4, 0, []),
                                   (9, 0, [])]:
            self.same(least_touches(PARTED, rows, most), wanted)
            self.same(touch_plan(PARTED, rows, most), plan)

    def test_the_present_is_remembered_behind_a_touch(self):
        rows = of(3, 1, 1)
        for most, wanted in [(0, None), (1, 3), (2, 0), (3, 0)]:
            self.same(least_touches(PARTED, rows, most), wanted)
        self.truth(is_touch_plan(PARTED, rows, 2, [0]), True)
        self.truth(is_touch_plan(PARTED, rows, 2, [1]), False)
        self.same(touch_plan(PARTED, of(3), 0), None)
        self.same(touch_plan(PARTED, of(3), 1), [])
        self.same(touch_plan(PARTED, [], 0), [])
        self.same(touch_plan(PARTED, of(15), 0), None)

    def test_open_ones_stay(self):
        rows = of(3, 1, 1, 2)
        for most, wanted in [(0, None), (1, None), (2, 3), (3, 0), (4, 0)]:
            self.same(least_touches(PARTED, rows, most, open_ones=[3]), wanted)
            self.same(least_touches(PARTED, rows, most, open_ones=(3, 3)), wanted)
        self.same(touch_plan(PARTED, rows, 2, open_ones=[3]), [1, 2, 3])
        self.same(least_touches(PARTED, rows, 3, open_ones=[0, 3]), 3)
        self.same(least_touches(PARTED, rows, 2, open_ones=[0, 3]), None)
        self.same(least_touches(PARTED, rows, 1, open_ones=[15]), 4)
        self.same(least_touches(PARTED, [], 0, open_ones=[0]), None)

    def test_dead_open_ones_count_for_nothing(self):
        self.same(least_touches(DEAD, [], 0, open_ones=[0]), 0)
        self.same(touch_plan(DEAD, [(4, ((0, 0), (1, 1)))], 1, open_ones=[0]), [])

    def test_too_many(self):
        for call in ALL:
            call(PARTED, of(*range(12)) * 2, 12)
            call(PARTED, of(*range(6)), 12, open_ones=list(range(5, 12)))
            self.fails(TooMany, 12, call, PARTED, of(*range(13)))
            self.fails(TooMany, 12, call, PARTED, of(*range(12)), open_ones=[12])
            self.fails(TooMany, 12, call, PARTED, [], open_ones=list(range(13)))
            self.fails(TooMany, 12, call, PARTED, of(*range(13)), 99)
        self.same(least_touches(PARTED, of(*range(12)), 1), 12)
        self.same(least_touches(PARTED, of(*range(11), 0, 15), 7), 5)
        # Twelve and the present that is remembered behind a touch.
        self.truth(is_touch_plan(PARTED, of(*range(12), 0), 13, [0]), True)
        self.truth(is_touch_plan(PARTED, of(*range(12), 0), 12, [0]), False)


class Plans(Case):

    def test_what_is_none(self):
        rows = of(3, 1, 15, 3, 1, 2)
        for value in [[0, 1, 3, 4, 5]]:
            self.truth(is_touch_plan(PARTED, rows, 1, value), True)
        for value in [None, 0, True, (), (0, 1, 3, 4, 5), [1, 0, 3, 4, 5], [0, 1, 3, 4, 5, 5], [0, 0, 1, 3, 4, 5],
                      [0, 1, 2, 3, 4, 5], [2], [0, 1, 3, 4, 5, 6], [6], [-6, 0, 1, 3, 4, 5], [-1], [-6], [False, 1],
                      [0, True, 3, 4, 5], [None, 0, 1, 3, 4, 5], [0, 1, 3, 4, "5"], [[0]], {0: 0, 1: 1, 3: 3, 4: 4, 5: 5},
                      {0, 1, 3, 4, 5}, [[0, 1, 3, 4, 5]], "01345", {}, range(2)]:
            for most in [1, 20]:
                self.truth(is_touch_plan(PARTED, rows, most, value), False, value)
        self.truth(is_touch_plan(PARTED, rows, 1, [0, 1, 3, 4]), False)

    def test_more_than_needed(self):
        rows = of(3, 1, 15, 3, 1, 2)
        self.truth(is_touch_plan(PARTED, rows, 4, []), True)
        self.truth(is_touch_plan(PARTED, rows, 3, []), False)
        self.truth(is_touch_plan(PARTED, rows, 3, [5]), True)
        self.truth(is_touch_plan(PARTED, rows, 3, [4, 5]), True)
        self.truth(is_touch_plan(PARTED, rows, 3, [1, 4, 5]), True)
        self.truth(is_touch_plan(PARTED, rows, 3, [0, 1]), False)
        self.truth(is_touch_plan(PARTED, rows, 3, [5], open_ones=[2]), False)
        self.truth(is_touch_plan(PARTED, rows, 4, [5], open_ones=(2,)), True)


class Errors(Case):

    def test_no_rows(self):
        for call in ALL:
            for value in NO_LISTS:
                self.fails(BadRow, None, call, PARTED, value)
                self.fails(BadRow, None, call, PARTED, value, -1, open_ones=None)

    def test_no_row(self):
        for call in ALL:
            for row in STRANGE + [None, 0, (3, ((0, 21),)), (16, ((0, 0),)), [3, ((0, None),)], (None, ((0, 0),))]:
                self.fails(BadRow, 0, call, PARTED, [row])
                self.fails(BadRow, 2, call, PARTED, of(3, 0) + [row, None])
                self.fails(BadRow, 13, call, PARTED, tuple(of(*range(13))) + (row,), -1, open_ones=[None])

    def test_barred_rows(self):
        fine, barred = (1, ((0, 0), (1, 1))), (1, ((0, 0), (1, 2)))
        for call in ALL:
            self.fails(BadRow, 1, call, DEAD, [fine, barred, None])
            self.fails(BadRow, 0, call, DEAD, [(0, ((0, 0),)), fine])

    def test_open_ones(self):
        for call in ALL:
            for value in NO_LISTS:
                self.fails(BadEdition, None, call, PARTED, of(3), open_ones=value)
                self.fails(BadEdition, None, call, PARTED, of(*range(13)), -1, open_ones=value)
            for edition in STRANGE + [None, -1, 16, "0"]:
                self.fails(BadEdition, edition, call, PARTED, of(3), open_ones=[edition])
                self.fails(BadEdition, edition, call, PARTED, of(*range(13)), -1, open_ones=[0, edition, None])

    def test_most(self):
        for call in QUESTIONS:
            for most in STRANGE + [None, -1, "1"]:
                self.fails(BadPart, "most", call, PARTED, of(3), most)
                self.fails(BadPart, "most", call, PARTED, of(*range(13)), most, open_ones=[13])

    def test_by_name_alone(self):
        self.assertRaises(TypeError, least_touches, PARTED, [], 1, [])
        self.assertRaises(TypeError, touch_plan, PARTED, [], 1, [])
        self.assertRaises(TypeError, is_touch_plan, PARTED, [], 1, [], [])

    def test_nothing_is_changed(self):
        rows, open_ones = of(3, 1, 15, 2), [4, 4]
        plan = touch_plan(PARTED, rows, 2, open_ones=open_ones)
        plan.clear()
        self.assertEqual((rows, open_ones), (of(3, 1, 15, 2), [4, 4]))
        self.same(touch_plan(PARTED, rows, 2, open_ones=open_ones), [0, 1, 3])


class Model(Case):

    def wanted(self, history, there, changes, rows, open_ones):
        """For each choice of rows that can be touched how many lots are left."""
        pairs = model.together(there, changes)
        alive = model.live(there, changes)
        present = len(changes)
        can = [index for index, row in enumerate(rows) if row[0] != present]
        found = {}
        for many in range(len(can) + 1):
            for choice in itertools.combinations(can, many):
                left = [row[0] for index, row in enumerate(rows) if index not in choice] + open_ones
                left = set(left + [present] * (many > 0)) & set(alive)
                found[choice] = model.fewest(pairs, left)
        return found

    def test_drawn_histories(self):
        chance = random.Random(21)
        checked = 0
        for _ in range(150):
            first, changes, there = model.drawn_history(chance, chance.randint(1, 7), 2, 2)
            history = history_of(first, changes)
            every = [row for edition in range(len(there)) for row in all_stored(history, edition)
                     if followed(history, row) is not None]
            rows = [chance.choice(every) for _ in range(chance.randint(0, 5))]
            open_ones = [chance.randrange(len(there)) for _ in range(chance.choice([0, 0, 1, 2]))]
            wanted = self.wanted(history, there, changes, rows, open_ones)
            with self.subTest(first=first, changes=changes, rows=rows, open_ones=open_ones):
                self.assertEqual(remembered(history, rows, open_ones), wanted[()])
                for most in range(5):
                    enough = [choice for choice, lots in wanted.items() if lots <= most]
                    least = min([len(choice) for choice in enough], default=None)
                    checked += least not in [None, 0]
                    self.assertEqual(least_touches(history, rows, most, open_ones=open_ones), least)
                    plan = touch_plan(history, rows, most, open_ones=open_ones)
                    if least is None:
                        self.assertIsNone(plan)
                    else:
                        self.assertEqual(len(plan), least)
                        self.assertIn(tuple(plan), enough)
                    for choice, lots in wanted.items():
                        self.truth(is_touch_plan(history, rows, most, list(choice), open_ones=open_ones), lots <= most)
        self.assertGreater(checked, 20)

    def test_behind_the_touch(self):
        rows = of(3, 1, 3, 15, 1, 2)
        for most in [1, 2, 3, 4]:
            plan = touch_plan(PARTED, rows, most)
            behind = [touched(PARTED, row) if index in plan else row for index, row in enumerate(rows)]
            self.assertLessEqual(remembered(PARTED, behind), most)
            for row, other in zip(rows, behind):
                self.assertEqual(followed(PARTED, row), followed(PARTED, other))


class Example(Case):

    def test_by_name(self):
        rows = of(3, 1, 1)
        self.same(touched(row=rows[0], history=PARTED), (15, ((0, 3),)))
        self.same(remembered(open_ones=[0], rows=rows, history=PARTED), 3)
        self.same(least_touches(open_ones=[0], most=2, rows=rows, history=PARTED), 3)
        self.same(touch_plan(open_ones=[0], most=2, rows=rows, history=PARTED), [0, 1, 2])
        self.truth(is_touch_plan(open_ones=[0], value=[0, 1, 2], most=2, rows=rows, history=PARTED), True)


if __name__ == "__main__":
    unittest.main()
