import unittest

from editionrows import errors
from tests.helpers import ATTRIBUTES, STRANGE, Case

APART = {errors.UnknownName: KeyError, errors.TooMany: OverflowError, errors.NothingToUndo: RuntimeError}
LISTED = ["BadColumn", "BadPart", "BadChange", "CannotBe", "BadEdition", "BadValue", "BadRow", "BadLot", "BadPair",
          "BadText", "BadLine", "BadLife", "UnknownName", "TooMany", "NothingToUndo"]


class Errors(Case):

    def test_all_are_there(self):
        self.assertEqual([error.__name__ for error in ATTRIBUTES], LISTED)
        for name in LISTED:
            self.assertEqual(getattr(errors, name).__module__, "editionrows.errors")

    def test_bases(self):
        self.assertEqual(errors.TableError.__bases__, (ValueError,))
        for error in ATTRIBUTES:
            self.assertEqual(error.__bases__, (APART.get(error, errors.TableError),))

    def test_none_is_derived_from_another(self):
        for one in ATTRIBUTES:
            for other in ATTRIBUTES:
                self.assertEqual(issubclass(one, other), one is other)

    def test_keeps_any_value_by_position_and_by_name(self):
        for error, attribute in ATTRIBUTES.items():
            for value in STRANGE + [None, 0, -1, 7, "missing", "row", (0, 1)]:
                self.assertIs(getattr(error(value), attribute), value)
                self.assertIs(getattr(error(**{attribute: value}), attribute), value)

    def test_is_made_from_one_argument(self):
        for error in ATTRIBUTES:
            self.assertRaises(TypeError, error)
            self.assertRaises(TypeError, error, 1, 2)
            self.assertRaises(TypeError, error, other=1)

    def test_can_be_raised_and_caught(self):
        for error in ATTRIBUTES:
            with self.assertRaises(APART.get(error, ValueError)):
                raise error(3)


if __name__ == "__main__":
    unittest.main()
