import unittest

from editionrows.values import MISSING, in_order, is_value, is_within, rank, values_to
from tests.helpers import STRANGE, Case


class Values(Case):

    def test_missing(self):
        self.same(MISSING, "missing")

    def test_is_value(self):
        for value in [None, 0, 1, 2, 99, 100, 10 ** 30]:
            self.truth(is_value(value), True, value)
        for value in STRANGE + [MISSING, -1, -2, -100]:
            self.truth(is_value(value), False, value)

    def test_is_within(self):
        for value in [None, 0, 1, 2, 3]:
            self.truth(is_within(value, 3), True, value)
        for value in STRANGE + [MISSING, -1, -3, 4, 5, 99]:
            self.truth(is_within(value, 3), False, value)
        self.truth(is_within(0, 0), True)
        self.truth(is_within(1, 0), False)
        self.truth(is_within(True, 1), False)
        self.truth(is_within(False, 1), False)

    def test_values_to(self):
        self.assertEqual(values_to(0), [None, 0])
        self.assertEqual(values_to(1), [None, 0, 1])
        self.assertEqual(values_to(3), [None, 0, 1, 2, 3])
        self.assertEqual(values_to(99), [None] + list(range(100)))

    def test_values_to_is_new(self):
        values_to(2).clear()
        self.same(values_to(2), [None, 0, 1, 2])

    def test_rank(self):
        self.same(rank(MISSING), -2)
        self.same(rank(None), -1)
        for value in [0, 1, 2, 99, 100]:
            self.same(rank(value), value)

    def test_in_order(self):
        self.assertEqual(in_order([]), [])
        self.assertEqual(in_order([2, None, 0, MISSING, 10, 1]), [MISSING, None, 0, 1, 2, 10])
        self.assertEqual(in_order([None, MISSING]), [MISSING, None])
        self.assertEqual(in_order([5, MISSING]), [MISSING, 5])
        self.assertEqual(in_order([0, None]), [None, 0])
        self.assertEqual(in_order((3, 1, 2)), [1, 2, 3])

    def test_in_order_has_nothing_twice(self):
        self.assertEqual(in_order([1, None, MISSING, 1, 0, None, 0, MISSING, 1]), [MISSING, None, 0, 1])

    def test_in_order_puts_none_ahead_of_all_integers(self):
        self.assertEqual(in_order([-1, None, 0, -2, MISSING, -7]), [MISSING, None, -7, -2, -1, 0])

    def test_in_order_leaves_its_argument(self):
        values = [2, None, 2]
        found = in_order(values)
        self.assertEqual(values, [2, None, 2])
        found.clear()
        self.assertEqual(in_order([0]), [0])
        ordered = [None, 1]
        self.assertIsNot(in_order(ordered), ordered)

    def test_by_name(self):
        self.truth(is_value(value=3), True)
        self.truth(is_within(greatest=3, value=4), False)
        self.assertEqual(values_to(greatest=1), [None, 0, 1])
        self.assertEqual(rank(value=None), -1)
        self.assertEqual(in_order(values=[1, None]), [None, 1])


if __name__ == "__main__":
    unittest.main()
