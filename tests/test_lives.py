import itertools
import random
import time
import unittest
from unittest import mock

from editionrows import lives
from editionrows.books import MAPPINGS, MISSINGS, NUMBERINGS, TOUCHES, Book, book_reads
from editionrows.columns import Column
from editionrows.errors import BadLife, BadPart, TooMany
from editionrows.histories import History
from editionrows.lives import all_lives, first_lives, is_life, is_right, least_break, life_reads, steps_of
from editionrows.stored import all_stored, followed, is_stored, store
from tests import model
from tests.helpers import STRANGE, Alike, Case, all_books, history_of

NO_BOOKS = STRANGE + [None, 0, "kept", Book]
NO_MOSTS = STRANGE + [None, -1, 0, 4, 100, "1"]

ORDER = Book()
LAST = Book(mapping="last")
AGAIN = Book(numbering="again")
BOTH = Book(numbering="again", mapping="last", missing="none", touching=["drop", "fill"])


class First(Case):

    def test_as_written_then_by_an_add(self):
        written = [(None, None), (None, 0), (None, 1), (0, None), (0, 0), (0, 1), (1, None), (1, 0), (1, 1)]
        self.same(first_lives(ORDER, 1), [(1, default, value, "there", value) for default, value in written]
                  + [(1, default, default, "missing", default) for default in [None, 0, 1]])
        self.same(first_lives(Book(missing="none"), 1),
                  [(1, default, value, "there", value) for default, value in written]
                  + [(1, default, default, "missing", None) for default in [None, 0, 1]])
        self.same(first_lives(LAST, 1), [(1, default, value, value, (None, "", None)) for default, value in written]
                  + [(1, default, default, "missing", (default, "", None)) for default in [None, 0, 1]])
        self.same(first_lives(BOTH, 1), [(1, default, value, value, (None, "", None)) for default, value in written]
                  + [(1, default, default, "missing", (None, "", None)) for default in [None, 0, 1]])
        self.same(first_lives(AGAIN, 1), [(1, default, value, value, value) for default, value in written]
                  + [(1, default, default, "missing", default) for default in [None, 0, 1]])

    def test_each_once(self):
        for book in [Book(touching=["add"]), Book(missing="none", mapping="last", touching=TOUCHES)]:
            for most in [1, 2, 3]:
                columns = [(greatest, default) for greatest in range(1, most + 1)
                           for default in model.values_of(greatest)]
                wanted = [(greatest, default, value) for greatest, default in columns
                          for value in model.values_of(greatest)]
                self.assertEqual([life[:3] for life in first_lives(book, most)], wanted)

    def test_greatest_values_ascend(self):
        for book in all_books():
            for most in [1, 2, 3]:
                columns = [(greatest, default) for greatest in range(1, most + 1)
                           for default in model.values_of(greatest)]
                wanted = [(greatest, default, value) for greatest, default in columns
                          for value in model.values_of(greatest)]
                added = [] if "add" in book.touching else [column + column[1:] for column in columns]
                found = first_lives(book, most)
                self.assertEqual([life[:3] for life in found], wanted + added)
                self.assertEqual(len(set(found)), len(found))
                for life in found:
                    self.truth(is_life(book, life, most), True)
                    self.same(life_reads(book, life), None if book.missing == "none" and life[3] == "missing" else life[2])

    def test_what_is_told_is_new(self):
        first_lives(ORDER, 1).clear()
        self.assertEqual(len(first_lives(ORDER, 1)), 12)


class Steps(Case):

    def test_in_their_order(self):
        for book, life, wanted in [
            (ORDER, (2, 1, 2, "there", 2), [
                (("greatest", 1, "cut"), (1, 1, 1, "there", 1)), (("greatest", 1, "none"), (1, 1, None, "there", None)),
                (("greatest", 2, "cut"), (2, 1, 2, "there", 2)), (("greatest", 2, "none"), (2, 1, 2, "there", 2)),
                (("greatest", 2, "refuse"), (2, 1, 2, "there", 2)),
                (("default", None), (2, None, 2, "there", 2)), (("default", 0), (2, 0, 2, "there", 2)),
                (("default", 1), (2, 1, 2, "there", 2)), (("default", 2), (2, 2, 2, "there", 2)),
                (("fill", 0), (2, 1, 2, "there", 2)), (("fill", 1), (2, 1, 2, "there", 2)),
                (("fill", 2), (2, 1, 2, "there", 2)),
            ]),
            (BOTH, (1, None, None, 2, (None, "cut", None)), [
                (("greatest", 1, "cut"), (1, None, None, 2, (None, "cut", None))),
                (("greatest", 1, "none"), (1, None, None, 2, (None, "cut", None))),
                (("greatest", 1, "refuse"), (1, None, None, 2, (None, "cut", None))),
                (("greatest", 2, "cut"), (2, None, None, 2, (None, "cut", None))),
                (("greatest", 2, "none"), (2, None, None, 2, (None, "cut", None))),
                (("greatest", 2, "refuse"), (2, None, None, 2, (None, "cut", None))),
                (("default", None), (1, None, None, 2, (None, "cut", None))),
                (("default", 0), (1, 0, None, 2, (None, "cut", None))),
                (("default", 1), (1, 1, None, 2, (None, "cut", None))),
                (("fill", 0), (1, None, 0, 0, (None, "", None))), (("fill", 1), (1, None, 1, 1, (None, "", None))),
                (("drop",), ("dropped", "missing")),
                (("other", "drop"), (1, None, None, None, (None, "", None))),
                (("other", "fill"), (1, None, None, None, (None, "", None))),
            ]),
            (Book(numbering="again", touching=TOUCHES), ("dropped", 2), [
                (("add", 1, None), (1, None, None, None, None)), (("add", 1, 0), (1, 0, 0, 0, 0)),
                (("add", 1, 1), (1, 1, 1, 1, 1)),
                (("add", 2, None), (2, None, None, None, None)), (("add", 2, 0), (2, 0, 0, 0, 0)),
                (("add", 2, 1), (2, 1, 1, 1, 1)), (("add", 2, 2), (2, 2, 2, 2, 2)),
                (("other", "default"), ("dropped", "missing")), (("other", "greatest"), ("dropped", "missing")),
                (("other", "fill"), ("dropped", "missing")),
            ]),
        ]:
            self.same(steps_of(book, life, 2), wanted)

    def test_of_a_dropped_number(self):
        for book, life, wanted in [
            (AGAIN, ("dropped", 1), [(1, None, None, 1, 1), (1, 0, 0, 1, 1), (1, 1, 1, 1, 1)]),
            (AGAIN, ("dropped", None), [(1, None, None, None, None), (1, 0, 0, None, None), (1, 1, 1, None, None)]),
            (AGAIN, ("dropped", "missing"), [(1, None, None, "missing", None), (1, 0, 0, "missing", 0),
                                             (1, 1, 1, "missing", 1)]),
            (BOTH, ("dropped", 1), [(1, default, default, 1, (None, "", None)) for default in [None, 0, 1]]),
            (AGAIN.changed("mapping", "last"), ("dropped", "missing"),
             [(1, default, default, "missing", (default, "", None)) for default in [None, 0, 1]]),
            (AGAIN.changed("missing", "present"), ("dropped", "missing"),
             [(1, default, default, "missing", None) for default in [None, 0, 1]]),
        ]:
            steps = [("add", 1, default) for default in [None, 0, 1]]
            found = steps_of(book, life, 1)
            self.same(found[:3], list(zip(steps, wanted)))
            self.same(found[3:], [(("other", "fill"), ("dropped", "missing"))] if book == BOTH else [])

    def test_a_refuse_that_cannot_be_done(self):
        for life, refused in [((3, 3, 0, "there", 0), [1, 2]), ((3, 0, 2, "there", 0), [1]), ((3, None, None, "there", 3), []),
                              ((3, 2, 3, "there", 0), [1, 2]), ((2, 2, 2, "there", 2), [1])]:
            steps = [step for step, _ in steps_of(ORDER, life, 3) if step[0] == "greatest"]
            wanted = [("greatest", greatest, way) for greatest in [1, 2, 3] for way in ["cut", "none", "refuse"]
                      if way != "refuse" or greatest not in refused]
            self.same(steps, wanted)

    def test_lives_that_do_not_come(self):
        # What is read goes its own way, and a refuse leaves it.
        steps = dict(steps_of(ORDER, (2, 0, 0, "there", 3), 3))
        self.same(steps["greatest", 1, "refuse"], (1, 0, 0, "there", 3))
        self.same(steps["greatest", 1, "cut"], (1, 0, 0, "there", 1))
        self.same(steps["greatest", 1, "none"], (1, 0, 0, "there", None))
        self.same(steps["greatest", 3, "cut"], (3, 0, 0, "there", 3))
        self.same(steps["greatest", 2, "cut"], (2, 0, 0, "there", 3))
        steps = dict(steps_of(ORDER, (2, 0, 0, "missing", None), 3))
        self.same(steps["fill", 2], (2, 0, 0, "missing", 2))
        steps = dict(steps_of(Book(missing="none"), (2, 0, None, "missing", None), 3))
        self.same(steps["fill", 2], (2, 0, 2, "missing", None))

    def test_signs(self):
        for missing in MISSINGS:
            start = 3 if missing == "kept" else None
            book = LAST.changed("missing", missing)
            for stored, first in [("missing", start), (3, None)]:
                steps = dict(steps_of(book, (3, 0, None, stored, (first, "", None)), 3))
                for step, signs in [(("greatest", 2, "cut"), ("cut", None)), (("greatest", 2, "none"), ("none", None)),
                                    (("greatest", 2, "refuse"), ("", None)), (("greatest", 3, "none"), ("", None)),
                                    (("default", 1), ("", None)), (("fill", 0), ("", 0))]:
                    self.same(steps[step][3:], (stored, (first,) + signs))
                steps = dict(steps_of(book, (2, 0, None, stored, (first, "none", 1)), 3))
                for step, signs in [(("greatest", 1, "cut"), ("cut", 1)), (("greatest", 3, "cut"), ("none", 1)),
                                    (("greatest", 1, "refuse"), ("none", 1)), (("fill", 2), ("none", 2))]:
                    self.same(steps[step][3:], (stored, (first,) + signs))

    def test_no_step_of_other_kinds(self):
        for book in all_books():
            for life in first_lives(book, 1)[::4] + [("dropped", "missing")] * (book.numbering == "again"):
                found = steps_of(book, life, 1)
                dropped = life[0] == "dropped"
                kinds = [kind for kind in book.touching if not dropped or kind not in ["add", "drop"]]
                self.assertEqual([step for step, _ in found if step[0] == "other"], [("other", kind) for kind in kinds])
                self.assertEqual([step for step, _ in found if step[0] == "drop"],
                                 [("drop",)] * (book.numbering == "again" and not dropped))
                self.assertEqual(len([step for step, _ in found if step[0] == "add"]), 3 * dropped)
                for _, behind in found:
                    self.truth(is_life(book, behind, 1), True)


# Lives by their form up to 2, and what is none for these books.
GOOD = {
    "order": [(1, None, None, "there", None), (2, 2, 2, "there", 2), (1, 0, 1, "there", 2), (2, 0, 1, "missing", None),
              (1, 1, 1, "missing", 2), (2, None, 0, "there", 0)],
    "last": [(1, None, None, None, (None, "", None)), (2, 0, 1, 2, (None, "cut", 2)), (1, 0, 0, 2, (None, "none", 0)),
             (1, 1, 0, "missing", (2, "none", 2)), (1, 1, 0, "missing", (None, "", None))],
    "again": [(1, None, None, None, None), (1, 0, 1, 2, 2), (2, 2, 2, 0, None), (1, 0, 0, "missing", 2),
              ("dropped", "missing"), ("dropped", None), ("dropped", 0), ("dropped", 2)],
    "both": [(1, None, None, 2, (None, "", None)), (2, 0, 1, 0, (None, "cut", 2)), (1, 0, 0, "missing", (None, "none", 0)),
             ("dropped", "missing"), ("dropped", None), ("dropped", 2)],
}
BOOKS = {"order": ORDER, "last": LAST, "again": AGAIN, "both": BOTH}
WRONG = {
    "order": [(0, None, None, "there", None), (3, 0, 0, "there", 0), (True, 0, 0, "there", 0), (None, 0, 0, "there", 0),
              ("1", 0, 0, "there", 0), (1, 2, 0, "there", 0), (1, True, 0, "there", 0), (1, -1, 0, "there", 0),
              (1, "missing", 0, "there", 0), (1, 0, 2, "there", 0), (1, 0, True, "there", 0), (1, 0, -1, "there", 0),
              (1, 0, 0, 0, 0), (1, 0, 0, None, 0), (1, 0, 0, "There", 0), (1, 0, 0, True, 0), (1, 0, 0, Alike(), 0),
              (1, 0, 0, "there", 3), (1, 0, 0, "there", -1), (1, 0, 0, "there", True), (1, 0, 0, "there", "there"),
              (1, 0, 0, "there", (None, "", None)), (1, 0, 0, "there"), (1, 0, 0, "there", 0, 0), (1, 0, 0, "missing", 3),
              [1, 0, 0, "there", 0], ("dropped", "missing"), ("dropped", "there"), ("dropped", 0), ("dropped",),
              (1, 0, 0, "there", [0]), (1, 0, 0, ["there"], 0), (1, [0], 0, "there", 0), ((1,), 0, 0, "there", 0)],
    "last": [(1, 0, 0, "there", (None, "", None)), (1, 0, 0, 3, (None, "", None)), (1, 0, 0, True, (None, "", None)),
             (1, 0, 0, 0, 0), (1, 0, 0, 0, None), (1, 0, 0, 0, [None, "", None]), (1, 0, 0, 0, (None, "")),
             (1, 0, 0, 0, (None, "", None, None)), (1, 0, 0, 0, (None, "refuse", None)), (1, 0, 0, 0, (None, None, None)),
             (1, 0, 0, 0, (None, ("cut",), None)), (1, 0, 0, 0, (None, Alike(), None)), (1, 0, 0, 0, (None, "", 3)),
             (1, 0, 0, 0, (None, "", True)), (1, 0, 0, 0, (None, "", "")), (1, 0, 0, "missing", (3, "", None)),
             (1, 0, 0, "missing", (True, "", None)), (1, 0, 0, "missing", 0), (1, 0, 0, "missing", ()),
             ("dropped", "missing"), ("dropped", 0), (3, 0, 0, 0, (None, "", None)), (1, 0, 0, [0], (None, "", None))],
    "again": [(1, 0, 0, "there", 0), (1, 0, 0, 3, 0), (1, 0, 0, 0, 3), (1, 0, 0, 0, "missing"), (1, 0, 0, 0, (None, "", None)),
              ("dropped",), ("dropped", "there"), ("dropped", 3), ("dropped", True), ("dropped", -1), ("dropped", "dropped"),
              ("dropped", 0, 0), ["dropped", 0], ("drop", 0), ("missing", "missing"), (("dropped",), 0), (Alike(), 0),
              ("dropped", Alike()), ("dropped", [0]), (0, 0), (1, 0, 0, True, 0), (1, 0, 0, 0, False)],
    "both": [(1, 0, 0, "there", (None, "", None)), (1, 0, 0, 0, 0), (1, 0, 0, "missing", None), (1, 0, 0, 0, (None, "", 3)),
             ("dropped", "there"), ("dropped", 3), ("dropped", (None, "", None)), (1, 0, 0, 0, (0, "cut"))],
}


class Form(Case):

    def test_lives(self):
        for word, book in BOOKS.items():
            for life in GOOD[word]:
                self.truth(is_life(book, life, 2), True, (word, life))
                self.truth(is_life(book, life, 3), True, (word, life))

    def test_values_above(self):
        for word, book in BOOKS.items():
            for life in GOOD[word]:
                flat = [part for part in life if not isinstance(part, tuple)] + [
                    part for parts in life if isinstance(parts, tuple) for part in parts]
                self.truth(is_life(book, life, 1), 2 not in flat, (word, life))

    def test_others(self):
        for word, book in BOOKS.items():
            for value in WRONG[word] + STRANGE + [None, 0, "dropped", "there"]:
                for most in [1, 2]:
                    self.truth(is_life(book, value, most), False, (word, value))

    def test_memories_of_what_is_not_remembered(self):
        # Without a value that is kept the part is None, as the document says of it.
        for missing in ["present", "none"]:
            book = Book(missing=missing)
            self.truth(is_life(book, (1, 0, 0, "missing", None), 1), True)
            self.truth(is_life(book, (1, 0, 0, "missing", 0), 1), False)
            self.truth(is_life(book.changed("mapping", "last"), (1, 0, 0, "missing", (0, "", None)), 1), False)
        self.truth(is_life(LAST, (1, 0, 0, 0, (0, "", None)), 1), False)


class Reads(Case):

    def test_each_missing(self):
        for missing, wanted in [("kept", 2), ("present", 1), ("none", None)]:
            for numbering in NUMBERINGS:
                book = Book(missing=missing, numbering=numbering)
                life = (3, 1, 0, "missing", 2 if missing == "kept" else None)
                self.same(life_reads(book, life), wanted)
                book = book.changed("mapping", "last")
                life = (3, 1, 0, "missing", (2 if missing == "kept" else None, "none", 0))
                self.same(life_reads(book, life), wanted)

    def test_what_is_stored(self):
        self.same(life_reads(ORDER, (1, 0, 0, "there", 3)), 3)
        self.same(life_reads(ORDER, (1, 0, 0, "there", None)), None)
        self.same(life_reads(AGAIN, (1, 0, 0, 0, 2)), 2)
        for signs, stored, wanted in [(("", None), 3, 2), (("cut", 0), 3, 2), (("none", None), 3, None),
                                      (("none", 1), 3, 1), (("none", 3), 3, 3), (("none", 1), 2, 2), (("cut", 1), None, 1),
                                      (("", 0), None, 0), (("", None), None, None), (("", 1), 0, 0)]:
            for book in [LAST, BOTH]:
                self.same(life_reads(book, (2, 0, 0, stored, (None,) + signs)), wanted)
            self.same(life_reads(LAST, (2, 0, 0, "missing", (stored,) + signs)), wanted)

    def test_no_life(self):
        for word, book in BOOKS.items():
            for value in WRONG[word] + STRANGE + [None, 0, ("dropped", "missing"), ("dropped", 0)]:
                if not is_life(book, value, 3):
                    self.fails(BadLife, value, life_reads, book, value)
        for value in [("dropped", "missing"), ("dropped", None), ("dropped", 3)]:
            self.fails(BadLife, value, life_reads, AGAIN, value)
            self.fails(BadLife, value, life_reads, BOTH, value)
        self.fails(BadLife, (4, 0, 0, "there", 0), life_reads, ORDER, (4, 0, 0, "there", 0))
        self.fails(BadLife, (3, 0, 0, "there", 4), life_reads, ORDER, (3, 0, 0, "there", 4))


class Errors(Case):

    def test_no_book(self):
        for value in NO_BOOKS:
            for call in [first_lives, all_lives, is_right, least_break]:
                self.fails(BadPart, "book", call, value, 1)
                self.fails(BadPart, "book", call, value, 0)
            for call in [steps_of, is_life]:
                self.fails(BadPart, "book", call, value, (1, 0, 0, "there", 0), 1)
                self.fails(BadPart, "book", call, value, None, 0)
            self.fails(BadPart, "book", life_reads, value, None)

    def test_no_most(self):
        for value in NO_MOSTS:
            for call in [first_lives, all_lives, is_right, least_break]:
                self.fails(BadPart, "most", call, ORDER, value)
            for call in [steps_of, is_life]:
                self.fails(BadPart, "most", call, ORDER, (1, 0, 0, "there", 0), value)
                self.fails(BadPart, "most", call, ORDER, None, value)

    def test_no_life(self):
        for word, book in BOOKS.items():
            for value in WRONG[word] + STRANGE + [None, 0]:
                self.fails(BadLife, value, steps_of, book, value, 2)
            for value in GOOD[word]:
                self.assertGreater(len(steps_of(book, value, 2)), 0)

    def test_too_many(self):
        for book in [ORDER, LAST, BOTH]:
            for most in [1, 2]:
                many = len(all_lives(book, most))
                with mock.patch.object(lives, "MOST_LIVES", many):
                    self.assertEqual(len(all_lives(book, most)), many)
                with mock.patch.object(lives, "MOST_LIVES", many - 1):
                    self.fails(TooMany, many - 1, all_lives, book, most)
        self.same(lives.MOST_LIVES, 20000)


def closed(book, most):
    """All lives that come, from the first ones by the steps that are told."""
    found = list(first_lives(book, most))
    known = set(found)
    for life in found:
        for _, behind in steps_of(book, life, most):
            if behind not in known:
                known.add(behind)
                found.append(behind)
    return known


def is_read_plain(book, life):
    return life[0] == "dropped" or life_reads(book, life) == life[2]


class All(Case):

    def check(self, book, most):
        found = all_lives(book, most)
        self.assertEqual(len(set(found)), len(found))
        self.assertEqual(set(found), closed(book, most))
        self.truth(is_right(book, most), all(is_read_plain(book, life) for life in found))

    def test_all_books(self):
        for book in all_books():
            self.check(book, 1)

    def test_greater_ones(self):
        for book in list(all_books())[::17]:
            self.check(book, 2)
        self.check(Book(missing="none", touching=["add"]), 3)
        self.check(LAST, 3)

    def test_of_the_plain_book(self):
        for most, many in [(1, 9), (2, 25), (3, 50)]:
            wanted = [(greatest, default, value, stored, value) for greatest in range(1, most + 1)
                      for default in model.values_of(greatest) for value in model.values_of(greatest)
                      for stored in ["there", "missing"]]
            self.assertEqual(set(all_lives(ORDER, most)), set(wanted))
            self.assertEqual(len(all_lives(Book(touching=["add"]), most)), many)

    def test_which_books_are_right(self):
        for most in [1, 2]:
            for missing, numbering, mapping in itertools.product(MISSINGS, NUMBERINGS, MAPPINGS):
                for many in range(6):
                    for touching in itertools.combinations(TOUCHES, many):
                        book = Book(missing=missing, numbering=numbering, mapping=mapping, touching=touching)
                        right = (missing == "kept" or "add" in touching
                                 or missing == "present" and "default" in touching and "fill" in touching)
                        right = right and (numbering == "fresh" or "drop" in touching or "add" in touching)
                        # Up to 1 no greatest value can be made less.
                        right = right and (mapping == "order" or "fill" in touching
                                           and ("greatest" in touching or most == 1))
                        self.truth(is_right(book, most), right, (vars(book), most))


def least_breaks(book, most, longest):
    """The least number of changes, up to a longest, behind which some row is read otherwise; None if there is none.

    All histories of a column a beside a column b are gone through, with all changes of a and of an added c, and one of
    each kind of b.
    """
    firsts = [[("a", 0, greatest, default), ("b", 1, 1, 0)] for greatest in range(1, most + 1)
              for default in model.values_of(greatest)]
    changes = [("add", "c", greatest, value) for greatest in range(1, most + 1) for value in model.values_of(greatest)]
    for name in "ac":
        changes += [("drop", name)] + [("default", name, value) for value in model.values_of(most)]
        changes += [("fill", name, value) for value in range(most + 1)]
        changes += [("greatest", name, greatest, way) for greatest in range(1, most + 1)
                    for way in ["cut", "none", "refuse"]]
    changes += [("drop", "b"), ("default", "b", 0), ("greatest", "b", 1, "cut"), ("fill", "b", 0)]
    told = [(first, []) for first in firsts]
    for many in range(longest + 1):
        for first, done in told:
            if breaks(book, first, done):
                return many
        told = [(first, done + [change]) for first, done in told for change in changes
                if model.editions(first, done + [change]) is not None]
    return None


def breaks(book, first, changes):
    """Whether some row, also one of a later edition, is read otherwise at the present."""
    there = model.editions(first, changes)
    for edition, columns in enumerate(there):
        for row in model.rows_of([column if column[0] != "b" else ("b", 1, 0, 0) for column in columns]):
            shelf = model.Shelf(book, there, changes, edition, row)
            while shelf.plain is not None and shelf.at < len(changes):
                shelf.step()
            if shelf.plain is not None and any(shelf.read(name) != value for name, value in shelf.plain.items()):
                return True
    return False


def fewest_steps(book, most):
    """The least number of changes, by all steps that are told, that lead to a life that is read otherwise, or None."""
    first = first_lives(book, most)
    level = [life for life in first if life[3] != "missing"]
    known = set(level)
    many = 0
    while level:
        if not all(is_read_plain(book, life) for life in level):
            return many
        behind = [life for each in level for _, life in steps_of(book, each, most)]
        behind += [life for life in first if many == 0 and life[3] == "missing"]
        level = [life for life in dict.fromkeys(behind) if life not in known]
        known.update(level)
        many += 1
    return None


class Breaks(Case):

    def check(self, book, most):
        found = least_break(book, most)
        self.assertEqual(found is None, is_right(book, most))
        if found is None:
            return None
        self.assertIs(type(found), tuple)
        history, row, name = found
        self.assertIs(type(history), History)
        for edition in range(len(history) + 1):
            for column in history.columns(edition):
                self.assertLessEqual(column.greatest, most)
        self.assertTrue(is_stored(history, row))
        plain = followed(history, row)
        self.assertIsNotNone(plain)
        self.assertNotEqual(book_reads(book, history, row)[name], plain[name])
        return len(history)

    def test_all_books(self):
        for most in [1, 2]:
            for book in all_books():
                self.check(book, most)

    def test_greater_ones(self):
        for book in list(all_books())[::23]:
            self.check(book, 3)

    def test_as_short_as_possible(self):
        for most, step in [(1, 1), (2, 29)]:
            for book in list(all_books())[::step]:
                self.assertEqual(least_breaks(book, most, 2), self.check(book, most), vars(book))

    def check_fewest(self, book, most):
        wanted = fewest_steps(book, most)
        self.truth(is_right(book, most), wanted is None)
        self.assertEqual(self.check(book, most), wanted, (vars(book), most))

    def test_as_few_as_of_all_steps(self):
        for most in [1, 2, 3]:
            for missing, numbering, mapping in itertools.product(MISSINGS, NUMBERINGS, MAPPINGS):
                self.check_fewest(Book(missing=missing, numbering=numbering, mapping=mapping), most)

    def test_as_few_as_of_all_steps_where_rows_are_touched(self):
        for most, step in [(1, 1), (2, 7), (3, 29)]:
            for book in list(all_books())[::step]:
                self.check_fewest(book, most)

    def test_that_a_refuse_is_not_hindered_by_a_default(self):
        # A default above 1 hinders a refuse to 1, so a search must not be left with such defaults alone.
        for touching in [("fill",), ("fill", "default"), ("fill", "add")]:
            for most in [2, 3]:
                self.check_fewest(Book(mapping="last", touching=touching), most)
                self.check_fewest(Book(missing="present", mapping="last", touching=touching), most)

    def test_that_the_answer_comes_soon(self):
        begun = time.perf_counter()
        for _ in range(30):
            self.truth(is_right(LAST, 3), False)
            self.assertEqual(len(least_break(LAST, 3)[0]), 2)
        self.assertLess(time.perf_counter() - begun, 2)

    def test_known_ones(self):
        for parts, most, many in [({"missing": "none"}, 1, 1), ({"missing": "present"}, 1, 2), ({"mapping": "last"}, 2, 2),
                                  ({"numbering": "again"}, 1, 2), ({"missing": "none", "touching": TOUCHES[1:]}, 1, 1)]:
            self.assertEqual(self.check(Book(**parts), most), many)


class Histories(Case):
    """What a life tells, against histories that are gone through step by step."""

    def check(self, book, most, known, shelf):
        stored = shelf.lives()
        while shelf.at < len(shelf.changes):
            change, told, free = shelf.changes[shelf.at], shelf.lives(), shelf.free
            for name, life in told.items():
                self.assertIn(life, known)
                if name is not None:
                    self.same(life_reads(book, life), shelf.read(name))
            shelf.step()
            if shelf.plain is None:
                return
            behind = shelf.lives()
            if change[0] == "add" and shelf.plain.keys() - told.keys() and (free is None or None not in told):
                self.assertIn(behind[change[1]], first_lives(book, most))
            for name, life in told.items():
                self.check_step(book, most, change, name, life, behind)
        self.assertGreater(len(stored), 0)

    def check_step(self, book, most, change, name, life, behind):
        if change[0] == "drop" and (name is None or name == change[1] and book.numbering == "fresh"):
            return
        step = model.step_of(change, name, book.touching)
        later = name
        if change[0] == "drop" and change[1] == name:
            later = None
        elif change[0] == "rename" and change[1] == name:
            later = change[2]
        elif change[0] == "add" and name is None:
            later = change[1]
        if step is None:
            self.assertEqual(behind[later], life)
        else:
            self.assertEqual(dict(steps_of(book, life, most))[step], behind[later])

    def test_drawn_histories(self):
        chance = random.Random(11)
        books = list(all_books())
        for most in [1, 2, 3]:
            for book in chance.sample(books, 12):
                known = set(all_lives(book, most))
                for _ in range(25):
                    first, changes, there = model.drawn_history(chance, chance.randint(1, 8), most)
                    edition = chance.randint(0, chance.randint(0, len(changes)))
                    row = chance.choice(model.rows_of(there[edition]))
                    with self.subTest(book=vars(book), first=first, changes=changes, edition=edition, row=row):
                        self.check(book, most, known, model.Shelf(book, there, changes, edition, row))

    def test_right_books_read_the_plain_table(self):
        chance = random.Random(12)
        for most in [1, 2, 3]:
            books = [book for book in chance.sample(list(all_books()), 60) if is_right(book, most)]
            self.assertGreater(len(books), 10)
            for book in books:
                for _ in range(5):
                    first, changes, there = model.drawn_history(chance, chance.randint(1, 8), most)
                    history = history_of(first, changes)
                    for edition in range(len(changes) + 1):
                        row = store(history, chance.choice(model.rows_of(there[edition])), edition=edition)
                        self.assertEqual(book_reads(book, history, row), followed(history, row))


class Example(Case):

    def test_of_the_document(self):
        found = [is_right(Book(), 2), is_right(Book(missing="present"), 1),
                 len(least_break(Book(missing="present"), 1)[0])]
        self.same(found, [True, False, 2])

    def test_by_name(self):
        self.assertEqual(len(first_lives(most=1, book=ORDER)), 12)
        self.same(steps_of(most=1, life=(1, 0, 0, "there", 0), book=ORDER)[0],
                  (("greatest", 1, "cut"), (1, 0, 0, "there", 0)))
        self.truth(is_life(most=1, value=(1, 0, 0, "there", 0), book=ORDER), True)
        self.same(life_reads(life=(1, 0, 0, "there", 1), book=ORDER), 1)
        self.assertEqual(len(all_lives(most=1, book=ORDER)), 18)
        self.truth(is_right(most=1, book=ORDER), True)
        self.assertIsNone(least_break(most=1, book=ORDER))


if __name__ == "__main__":
    unittest.main()
