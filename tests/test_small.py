"""All stored rows of small histories: read, followed, led and barred as the plain table has it."""

import unittest

from editionrows.errors import BadColumn, CannotBe
from editionrows.histories import History
from editionrows.maps import arguments_of, is_dead, map_of, maps_of, read_row
from editionrows.plain import Plain
from editionrows.stored import all_stored, barred_at, followed, is_stored, store, stored_value
from tests import model
from tests.helpers import history_of


def plain_read(history, edition, row):
    """What the plain tables have of a row from its edition on, one for each edition, up to a change that it bars."""
    plain = Plain(history.up_to(edition)).written(row)
    found = plain.rows()
    for change in history.behind(edition):
        try:
            plain = plain.changed(change)
        except CannotBe as error:
            assert error.word == "row"
            return found
        found.extend(plain.rows())
    return found


class Small(unittest.TestCase):

    def over(self, check):
        for most, step in [(0, 1), (1, 1), (2, 1), (3, 23), (4, 997)]:
            for first, changes, there in model.small_histories(most, step):
                with self.subTest(first=first, changes=changes):
                    check(history_of(first, changes), changes, there)

    def check_columns(self, history, changes, there):
        found = [[(column.name, column.number, column.greatest, column.default) for column in history.columns(edition)]
                 for edition in range(len(changes) + 1)]
        self.assertEqual(found, there)

    def test_columns(self):
        self.over(self.check_columns)

    def test_what_cannot_be(self):
        for first, changes, there in model.small_histories(1):
            history = history_of(first, changes)
            for change in model.CHANGES:
                can = model.columns_behind(there[-1], change, 9) is not None
                self.assertEqual(Plain(history).why_not(change) is None, can)

    def check_rows(self, history, changes, there):
        for edition, columns in enumerate(there):
            rows = list(all_stored(history, edition))
            told = model.rows_of(columns)
            self.assertEqual([row for _, row in rows],
                             [tuple((column[1], each[column[0]]) for column in columns) for each in told])
            for row, each in zip(rows, told):
                self.check_row(history, row, each, model.trail(there, changes, edition, each))

    def check_row(self, history, row, told, trail):
        edition, last = row[0], len(history)
        self.assertTrue(is_stored(history, row))
        self.assertEqual(store(history, told, edition=edition), row)
        self.assertEqual(plain_read(history, edition, told), trail)
        ended = edition + len(trail)
        for later in range(edition, last + 1):
            self.assertEqual(followed(history, row, edition=later), trail[later - edition] if later < ended else None)
        self.assertEqual(barred_at(history, row), ended if ended <= last else None)
        read = trail[-1] if ended > last else None
        self.assertEqual(followed(history, row), read)
        self.assertEqual(read_row(history, row), read)
        if read is not None:
            self.assertEqual(list(read_row(history, row)), [column.name for column in history.columns()])
        self.check_arguments(history, row, read is None)

    def check_arguments(self, history, row, barred):
        edition = row[0]
        fits = True
        for number in range(history.numbers()):
            if history.dropped(number) is None or history.dropped(number) > edition:
                fits = fits and stored_value(row, number) in arguments_of(history, edition, number)
        self.assertEqual(fits, not barred)

    def test_rows(self):
        self.over(self.check_rows)

    def check_maps(self, history, changes, there):
        for edition in range(len(there)):
            numbers = [column[1] for column in there[-1]]
            self.assertEqual(list(maps_of(history, edition)), numbers)
            dead = False
            for number in range(history.numbers()):
                dropped = history.dropped(number)
                if dropped is not None and dropped <= edition:
                    self.assertRaises(BadColumn, arguments_of, history, edition, number)
                    self.assertRaises(BadColumn, map_of, history, edition, number)
                    continue
                lead = model.lead(there, changes, number, edition)
                dead = dead or (history.born(number) > edition and lead == {})
                self.assertEqual(arguments_of(history, edition, number), list(lead))
                if number in numbers:
                    found = map_of(history, edition, number)
                    self.assertEqual({argument: found(argument) for argument in found.arguments()}, lead)
                    self.assertEqual(maps_of(history, edition)[number], found)
                else:
                    self.assertRaises(BadColumn, map_of, history, edition, number)
            self.assertIs(is_dead(history, edition), dead)
            if dead:
                self.assertEqual([row for row in all_stored(history, edition) if read_row(history, row) is not None], [])

    def test_maps(self):
        self.over(self.check_maps)


if __name__ == "__main__":
    unittest.main()
