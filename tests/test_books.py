import itertools
import random
import unittest

from editionrows.books import MAPPINGS, MISSINGS, NUMBERINGS, TOUCHES, Book, book_reads, kept_row, numbers_of
from editionrows.columns import Column
from editionrows.errors import BadChange, BadEdition, BadPart, BadRow
from editionrows.histories import History
from editionrows.stored import followed, store
from tests import model
from tests.helpers import STRANGE, Alike, Case, all_books, history_of

NO_WORDS = STRANGE + [None, 0, 1, "Kept", "fresh ", ("kept",), ["fresh"]]
NO_TOUCHING = [None, True, 0, "add", "", {"add": 0}, {"add"}, object(), Alike(), ["rename"], ("write",), ["add", "add"],
               ("fill", "add", "fill"), ["add", None], ["add", 0], ["add", Alike()], [["add"]], [("add",)], ("Add",),
               ["drop", b"add"], (("add", "drop"),), ["add", "drop", "default", "greatest", "fill", "rename"]]


class Words(Case):

    def test_in_their_order(self):
        self.same(MISSINGS, ("kept", "present", "none"))
        self.same(NUMBERINGS, ("fresh", "again"))
        self.same(MAPPINGS, ("order", "last"))
        self.same(TOUCHES, ("add", "drop", "default", "greatest", "fill"))


class Parts(Case):

    def parts(self, book):
        return book.missing, book.numbering, book.mapping, book.touching

    def test_plain_ones(self):
        self.same(self.parts(Book()), ("kept", "fresh", "order", ()))
        self.same(self.parts(Book(numbering="again")), ("kept", "again", "order", ()))
        self.same(self.parts(Book(mapping="last", missing="none")), ("none", "fresh", "last", ()))

    def test_all_words(self):
        for missing, numbering, mapping in itertools.product(MISSINGS, NUMBERINGS, MAPPINGS):
            book = Book(touching=["fill"], mapping=mapping, missing=missing, numbering=numbering)
            self.same(self.parts(book), (missing, numbering, mapping, ("fill",)))

    def test_touching_is_ordered(self):
        for many in range(6):
            for kinds in itertools.combinations(TOUCHES, many):
                for told in itertools.permutations(kinds):
                    self.same(Book(touching=told).touching, kinds)
                    self.same(Book(touching=list(told)).touching, kinds)

    def test_touching_may_be_spoilt(self):
        told = ["fill", "add"]
        book = Book(touching=told)
        other = Book().changed("touching", told)
        self.assertEqual(told, ["fill", "add"])
        told.clear()
        told.append("drop")
        self.same(book.touching, ("add", "fill"))
        self.same(other.touching, ("add", "fill"))

    def test_by_name_alone(self):
        self.assertRaises(TypeError, Book, "kept")

    def test_wrong_parts(self):
        for value in NO_WORDS + ["fresh", "order", "add", "missing"]:
            self.fails(BadPart, "missing", Book, missing=value)
            self.fails(BadPart, "missing", Book().changed, "missing", value)
        for value in NO_WORDS + ["kept", "order", "last"]:
            self.fails(BadPart, "numbering", Book, numbering=value)
            self.fails(BadPart, "numbering", Book().changed, "numbering", value)
        for value in NO_WORDS + ["kept", "fresh", "cut"]:
            self.fails(BadPart, "mapping", Book, mapping=value)
            self.fails(BadPart, "mapping", Book().changed, "mapping", value)
        for value in NO_TOUCHING:
            self.fails(BadPart, "touching", Book, touching=value)
            self.fails(BadPart, "touching", Book().changed, "touching", value)

    def test_the_first_wrong_part(self):
        self.fails(BadPart, "missing", Book, touching=3, mapping=3, numbering=3, missing=3)
        self.fails(BadPart, "numbering", Book, touching=3, mapping=3, numbering=3)
        self.fails(BadPart, "mapping", Book, touching=3, mapping=3)
        self.fails(BadPart, "touching", Book, touching=3)

    def test_changed(self):
        book = Book(missing="none", numbering="again", mapping="last", touching=("drop", "add"))
        self.same(self.parts(book.changed("missing", "present")), ("present", "again", "last", ("add", "drop")))
        self.same(self.parts(book.changed("numbering", "fresh")), ("none", "fresh", "last", ("add", "drop")))
        self.same(self.parts(book.changed("mapping", "order")), ("none", "again", "order", ("add", "drop")))
        self.same(self.parts(book.changed("touching", ["fill", "drop"])), ("none", "again", "last", ("drop", "fill")))
        self.same(self.parts(book), ("none", "again", "last", ("add", "drop")))
        self.assertIs(type(book.changed("missing", "none")), Book)

    def test_another_part(self):
        for part in STRANGE + [None, 0, "name", "Missing", "touches", ("missing",)]:
            self.fails(BadPart, part, Book().changed, part, "kept")
            self.fails(BadPart, part, Book().changed, part, 3)

    def test_equality(self):
        books = list(all_books())
        self.assertEqual(len(books), 384)
        for book in books[::7]:
            again = Book(touching=book.touching[::-1], mapping=book.mapping, numbering=book.numbering,
                         missing=book.missing)
            for other in books[::11] + [again]:
                alike = self.parts(book) == self.parts(other)
                self.truth(book == other, alike)
                self.truth(book != other, not alike)
            self.truth(book == again, True)
            for value in STRANGE + [None, self.parts(book)]:
                if not isinstance(value, Alike):
                    self.truth(book == value, False)

    def test_order(self):
        books = list(all_books())
        for book in books[::5]:
            for other in books[::3]:
                wanted = self.parts(book)[:3] == self.parts(other)[:3] and set(book.touching) <= set(other.touching)
                self.truth(book <= other, wanted)
                self.truth(other >= book, wanted)
        for value in [None, 0, (), "kept"]:
            self.assertRaises(TypeError, lambda: Book() <= value)

    def test_touches(self):
        changes = [("add", "b", 2, 3), ("drop", "b"), ("rename", "a", "b"), ("default", "b", 9),
                   ("greatest", "b", 1, "cut"), ("greatest", "b", 99, "refuse"), ("fill", "b", 0)]
        for book in all_books():
            for change in changes:
                self.truth(book.touches(change), change[0] in book.touching)
        for change in STRANGE + [None, 0, "add", ("add",), ("add", "b", 0, 0), ["drop", "b"], ("write", "b"), ("drop", 3),
                                 ("default", "b", "missing"), ("greatest", "b", 2, "last"), ("fill", "b", None)]:
            self.fails(BadChange, change, Book().touches, change)
            self.fails(BadChange, change, Book(touching=TOUCHES).touches, change)


# a0 b1; c2 added; b and c dropped, c last; d, e and f added; e and d dropped, d last; g, h added; g dropped, b added.
NUMBERS = History([Column("a", 2, 0), Column("b", 2, 1)], [
    ("add", "c", 2, 2),                 # 1
    ("drop", "b"),                      # 2
    ("drop", "c"),                      # 3
    ("add", "d", 1, 0),                 # 4
    ("add", "e", 1, 1),                 # 5
    ("rename", "d", "b"),               # 6
    ("drop", "e"),                      # 7
    ("drop", "b"),                      # 8
    ("fill", "a", 0),                   # 9
    ("add", "g", 2, 2),                 # 10
    ("add", "h", 2, None),              # 11
    ("drop", "g"),                      # 12
    ("add", "b", 1, 0),                 # 13
    ("drop", "a"),                      # 14
    ("drop", "b"),                      # 15
    ("add", "a", 1, 0),                 # 16
    ("add", "b", 1, 0),                 # 17
])
FRESH = [{"a": 0, "b": 1}, {"a": 0, "b": 1, "c": 2}, {"a": 0, "c": 2}, {"a": 0}, {"a": 0, "d": 3},
         {"a": 0, "d": 3, "e": 4}, {"a": 0, "b": 3, "e": 4}, {"a": 0, "b": 3}, {"a": 0}, {"a": 0}, {"a": 0, "g": 5},
         {"a": 0, "g": 5, "h": 6}, {"a": 0, "h": 6}, {"a": 0, "h": 6, "b": 7}, {"h": 6, "b": 7}, {"h": 6},
         {"h": 6, "a": 8}, {"h": 6, "a": 8, "b": 9}]
# c's number, 2, is given to d, b's never again; then e has 3, d's 2 is given to g, and to the second b; h has 4.
AGAIN = [{"a": 0, "b": 1}, {"a": 0, "b": 1, "c": 2}, {"a": 0, "c": 2}, {"a": 0}, {"a": 0, "d": 2},
         {"a": 0, "d": 2, "e": 3}, {"a": 0, "b": 2, "e": 3}, {"a": 0, "b": 2}, {"a": 0}, {"a": 0}, {"a": 0, "g": 2},
         {"a": 0, "g": 2, "h": 4}, {"a": 0, "h": 4}, {"a": 0, "h": 4, "b": 2}, {"h": 4, "b": 2}, {"h": 4},
         {"h": 4, "a": 2}, {"h": 4, "a": 2, "b": 5}]


class Numbers(Case):

    def test_at_each_edition(self):
        for book in all_books():
            wanted = FRESH if book.numbering == "fresh" else AGAIN
            for edition, numbers in enumerate(wanted):
                self.same(numbers_of(book, NUMBERS, edition), numbers)
                self.assertEqual(list(numbers_of(book, NUMBERS, edition)), list(numbers))
            self.same(numbers_of(book, NUMBERS), wanted[-1])
            self.same(numbers_of(book, NUMBERS, None), wanted[-1])

    def test_later_changes_do_not_matter(self):
        for edition in range(len(NUMBERS) + 1):
            for numbering in NUMBERINGS:
                book = Book(numbering=numbering)
                self.assertEqual(numbers_of(book, NUMBERS.up_to(edition)), numbers_of(book, NUMBERS, edition))

    def test_what_is_told_is_new(self):
        numbers_of(Book(), NUMBERS, 0).clear()
        self.same(numbers_of(Book(), NUMBERS, 0), FRESH[0])

    def test_errors(self):
        for value in STRANGE + [None, 0, "kept", Book]:
            self.fails(BadPart, "book", numbers_of, value, NUMBERS)
            self.fails(BadPart, "book", numbers_of, value, None, "x")
        for value in STRANGE + [None, 0, [], History]:
            self.fails(BadPart, "history", numbers_of, Book(), value)
            self.fails(BadPart, "history", numbers_of, Book(), value, "x")
        for value in STRANGE + [-1, 18, 100, "0"]:
            self.fails(BadEdition, value, numbers_of, Book(), NUMBERS, value)
            self.fails(BadEdition, value, numbers_of, Book(numbering="again"), NUMBERS, value)


class Reads(Case):
    """Cases told by hand; each names the words of the document that it shows."""

    def reads(self, columns, changes, told, edition=0, **parts):
        history = History(columns, changes)
        row = store(history, told, edition=edition)
        return book_reads(Book(**parts), history, row)

    def test_missing(self):
        changes = [("add", "b", 3, 3), ("greatest", "b", 2, "cut"), ("default", "b", 1)]
        for missing, wanted in [("kept", 2), ("present", 1), ("none", None)]:
            for mapping in MAPPINGS:
                found = self.reads([Column("a", 1)], changes, {"a": 0}, missing=missing, mapping=mapping)
                self.same(found, {"a": 0, "b": wanted})

    def test_nothing_more_is_made_of_what_is_missing(self):
        changes = [("add", "b", 3, None), ("fill", "b", 2)]
        for missing, wanted in [("kept", 2), ("present", None), ("none", None)]:
            for mapping in MAPPINGS:
                found = self.reads([Column("a", 1)], changes, {}, missing=missing, mapping=mapping)
                self.same(found, {"a": None, "b": wanted})

    def test_in_order(self):
        changes = [("greatest", "a", 2, "none"), ("fill", "a", 1), ("greatest", "a", 9, "refuse"), ("fill", "a", 7)]
        for told, wanted in [(5, 1), (2, 2), (None, 1), (0, 0)]:
            self.same(self.reads([Column("a", 5)], changes, {"a": told}), {"a": wanted})

    def test_the_last_ones(self):
        cut, none = ("greatest", "a", 2, "cut"), ("greatest", "a", 3, "none")
        for changes, told, wanted in [
            ([cut], 5, 2), ([none], 5, None), ([none, cut], 5, 2), ([none, cut], 3, 2), ([cut, none], 5, 3),
            # Above the present greatest one, the latest of cut and none tells; a refuse does not.
            ([("greatest", "a", 4, "cut"), none], 5, None), ([("greatest", "a", 4, "none"), cut], 5, 2),
            ([("greatest", "a", 4, "none"), ("greatest", "a", 2, "refuse")], 5, None),
            # A greatest value that is not made less tells nothing.
            ([none, ("greatest", "a", 3, "cut")], 5, None), ([none, ("greatest", "a", 4, "cut")], 5, None),
            # Made greater again, what is stored is no longer above.
            ([none, ("greatest", "a", 5, "cut")], 5, 5),
            # Then None becomes the value of the latest fill, wherever it stood.
            ([("fill", "a", 1), none], 5, 1), ([("fill", "a", 1), ("fill", "a", 0)], None, 0),
            ([none, ("fill", "a", 1)], None, 1), ([("fill", "a", 5), cut], None, 5), ([cut, ("fill", "a", 1)], 5, 2),
            ([("default", "a", 4)], None, None), ([("rename", "a", "b"), ("rename", "b", "a"), cut], 5, 2),
        ]:
            history = History([Column("a", 5)], changes)
            row = (0, ((0, told),))
            if followed(history, row) is not None:
                self.same(book_reads(Book(mapping="last"), history, row), {"a": wanted})

    def test_the_default_goes_the_last_way_too(self):
        changes = [("add", "b", 3, 3), ("greatest", "b", 2, "cut"), ("greatest", "b", 1, "none"), ("fill", "b", 0),
                   ("default", "b", 1)]
        self.same(self.reads([Column("a", 1)], changes, {}, mapping="last"), {"a": None, "b": 0})
        self.same(self.reads([Column("a", 1)], changes[:3], {}, mapping="last"), {"a": None, "b": None})
        self.same(self.reads([Column("a", 1)], changes[:2], {}, mapping="last"), {"a": None, "b": 2})

    def test_what_is_under_the_number_of_a_dropped_column(self):
        changes = [("drop", "b"), ("add", "c", 2, 1), ("greatest", "c", 1, "refuse")]
        first = [Column("a", 1), Column("b", 5)]
        for missing in MISSINGS:
            # 5 is above all that c ever was; a refuse leaves it, and by `last` the greatest value bounds it.
            for mapping, wanted in [("order", 5), ("last", 1)]:
                found = self.reads(first, changes, {"b": 5}, missing=missing, numbering="again", mapping=mapping)
                self.same(found, {"a": None, "c": wanted})
            found = self.reads(first, changes, {"b": None}, missing=missing, numbering="again")
            self.same(found, {"a": None, "c": None})
        self.same(self.reads(first, changes, {"b": 5}), {"a": None, "c": 1})

    def test_changes_of_the_new_column_alone(self):
        first = [Column("a", 1), Column("b", 5)]
        ahead = [("fill", "b", 4), ("greatest", "b", 3, "none"), ("drop", "b"), ("add", "c", 2, 1)]
        for mapping, told, wanted in [("order", 5, 5), ("order", None, None), ("last", 5, 2), ("last", None, None)]:
            found = self.reads(first, ahead, {"b": told}, numbering="again", mapping=mapping)
            self.same(found, {"a": None, "c": wanted})
        # Made greater, a value that stood above is left; made less, it is not.
        for changes, wanted in [([("greatest", "c", 3, "cut")], 5), ([("greatest", "c", 2, "cut")], 5),
                                ([("greatest", "c", 1, "cut")], 1), ([("greatest", "c", 1, "none")], None),
                                ([("greatest", "c", 1, "none"), ("fill", "c", 0)], 0)]:
            self.same(self.reads(first, ahead + changes, {"b": 5}, numbering="again"), {"a": None, "c": wanted})

    def test_rows_written_behind_the_drop(self):
        changes = [("drop", "b"), ("add", "c", 2, 1)]
        first = [Column("a", 1), Column("b", 5)]
        self.same(self.reads(first, changes, {}, edition=1, numbering="again"), {"a": None, "c": 1})
        self.same(self.reads(first, changes, {}, edition=1, numbering="again", missing="none"), {"a": None, "c": None})
        self.same(self.reads(first, changes, {"c": 2}, edition=2, numbering="again"), {"a": None, "c": 2})

    def test_touches_store_anew(self):
        first = [Column("a", 1), Column("b", 5)]
        changes = [("drop", "b"), ("default", "a", 1), ("add", "c", 2, 1), ("fill", "a", 0)]
        history = History(first, changes)
        row = (0, ((0, None), (1, 5)))
        for touching, kept, read in [
            ((), (0, {0: None, 1: 5}), {"a": 0, "c": 5}), (["drop"], (1, {0: None}), {"a": 0, "c": 1}),
            (["default"], (2, {0: None}), {"a": 0, "c": 1}), (["add"], (3, {0: None, 1: 1}), {"a": 0, "c": 1}),
            (["fill"], (4, {0: 0, 1: 1}), {"a": 0, "c": 1}), (["greatest"], (0, {0: None, 1: 5}), {"a": 0, "c": 5}),
            (["fill", "drop"], (4, {0: 0, 1: 1}), {"a": 0, "c": 1}),
        ]:
            book = Book(numbering="again", touching=touching)
            self.same(kept_row(book, history, row), kept)
            self.same(book_reads(book, history, row), read)
            # Behind a drop the number is 2 for `fresh`.
            book = Book(touching=touching)
            kept = (kept[0], {2 if kept[0] > 2 and number == 1 else number: value for number, value in kept[1].items()})
            self.same(kept_row(book, history, row), kept)
            self.same(book_reads(book, history, row), {"a": 0, "c": 1})

    def test_a_touch_behind_nothing_done(self):
        history = History([Column("a", 2)], [("greatest", "a", 2, "refuse"), ("rename", "a", "b")])
        self.same(kept_row(Book(touching=["greatest"]), history, (0, ((0, 1),))), (1, {0: 1}))
        self.same(kept_row(Book(touching=["fill"]), history, (0, ((0, 1),))), (0, {0: 1}))
        self.same(kept_row(Book(touching=["greatest"]), history, (1, ((0, 1),))), (1, {0: 1}))
        self.same(kept_row(Book(touching=["greatest"]), history, (2, ((0, 1),))), (2, {0: 1}))

    def test_barred(self):
        history = History([Column("a", 3), Column("b", 1)], [("greatest", "a", 1, "refuse"), ("drop", "a")])
        for book in all_books():
            for value, barred in [(3, True), (2, True), (1, False), (None, False)]:
                row = (0, ((0, value), (1, 0)))
                self.assertEqual(kept_row(book, history, row) is None, barred)
                self.assertEqual(book_reads(book, history, row), None if barred else {"b": 0})

    def test_what_is_told_is_new(self):
        history = History([Column("a", 3)])
        kept_row(Book(), history, (0, ((0, 1),)))[1].clear()
        book_reads(Book(), history, (0, ((0, 1),))).clear()
        self.same(kept_row(Book(), history, (0, ((0, 1),))), (0, {0: 1}))
        self.same(book_reads(Book(), history, (0, ((0, 1),))), {"a": 1})

    def test_errors(self):
        history = History([Column("a", 3)], [("add", "b", 1, 0)])
        for call in [kept_row, book_reads]:
            for value in STRANGE + [None, 0, Book]:
                self.fails(BadPart, "book", call, value, history, (0, ((0, 1),)))
                self.fails(BadPart, "book", call, value, None, None)
            for value in STRANGE + [None, 0, History]:
                self.fails(BadPart, "history", call, Book(), value, (0, ((0, 1),)))
                self.fails(BadPart, "history", call, Book(), value, None)
            for row in STRANGE + [None, 0, (0, ((0, 4),)), (0, ((0, True),)), (1, ((0, 1),)), [0, ((0, 1),)],
                                  (2, ((0, 1), (1, 0))), (None, ((0, 1), (1, 0))), (0, [(0, 1)])]:
                self.fails(BadRow, row, call, Book(), history, row)


class Model(Case):
    """All that a book stores and reads, against a second writing of the definitions."""

    def check(self, book, first, changes, there, edition, row):
        history = history_of(first, changes)
        shelf = model.Shelf(book, there, changes, edition, row)
        stored = store(history, row, edition=edition)
        while shelf.plain is not None:
            up_to = history.up_to(shelf.at)
            self.assertEqual(numbers_of(book, history, shelf.at), shelf.number_of)
            self.assertEqual(kept_row(book, up_to, stored), shelf.kept)
            read = book_reads(book, up_to, stored)
            self.assertEqual(read, {name: shelf.read(name) for name in shelf.plain})
            self.assertEqual(list(read), [column.name for column in up_to.columns()])
            if shelf.at == len(changes):
                return
            shelf.step()
        self.assertIsNone(kept_row(book, history, stored))
        self.assertIsNone(book_reads(book, history, stored))

    def test_drawn_histories(self):
        chance = random.Random(10)
        books = list(all_books())
        for _ in range(500):
            first, changes, there = model.drawn_history(chance, chance.randint(0, 8), chance.choice([1, 2, 3]))
            for book in chance.sample(books, 4):
                edition = chance.randint(0, chance.randint(0, len(changes)))
                row = chance.choice(model.rows_of(there[edition]))
                with self.subTest(book=vars(book), first=first, changes=changes, edition=edition, row=row):
                    self.check(book, first, changes, there, edition, row)

    def test_all_rows_of_small_histories(self):
        books = itertools.cycle(list(all_books())[::5])
        for most, step in [(1, 1), (2, 5), (3, 101)]:
            for first, changes, there in model.small_histories(most, step):
                for edition, columns in enumerate(there):
                    for row in model.rows_of(columns)[::3]:
                        self.check(next(books), first, changes, there, edition, row)


class Example(Case):

    def test_by_name(self):
        history = History([Column("a", 2, 0)], [("add", "b", 1, 0), ("fill", "a", 2)])
        book = Book(touching=["add"], mapping="order", numbering="again", missing="kept")
        self.same(book.changed(value="none", part="missing").missing, "none")
        self.truth(book.touches(change=("add", "c", 1, 0)), True)
        self.same(numbers_of(edition=0, history=history, book=book), {"a": 0})
        self.same(kept_row(row=(0, ((0, None),)), history=history, book=book), (1, {0: None, 1: 0}))
        self.same(book_reads(row=(0, ((0, None),)), history=history, book=book), {"a": 2, "b": 0})


if __name__ == "__main__":
    unittest.main()
