import random
import unittest

from editionrows.books import TOUCHES, Book
from editionrows.columns import Column
from editionrows.errors import BadPart
from editionrows.histories import History
from editionrows.lives import all_lives, first_lives, is_life, is_right, least_break, life_reads, steps_of
from editionrows.papers import lets_paper, paper_of
from editionrows.stored import all_stored
from tests.helpers import STRANGE, Alike, Case, all_books

NO_BOOKS = STRANGE + [None, 0, "kept", Book]
NO_MOSTS = STRANGE + [None, -1, 0, 4, 100, "1"]

RIGHT = [Book(), Book(touching=TOUCHES), Book(missing="none", touching=["add"]),
         Book(missing="present", touching=["default", "fill"]), Book(numbering="again", touching=["drop"]),
         Book(numbering="again", mapping="last", touching=["fill", "add", "greatest"])]
NONE = Book(missing="none")


class Own(Case):

    def check(self, book, most):
        paper = paper_of(book, most)
        self.assertIs(type(paper), tuple)
        if is_right(book, most):
            self.assertEqual(len(paper), 2)
            self.assertEqual(paper[0], "right")
            self.assertEqual(sorted(map(repr, paper[1])), sorted(map(repr, all_lives(book, most))))
        else:
            self.assertEqual(paper, ("wrong",) + least_break(book, most))
        self.truth(lets_paper(book, most, paper), True)
        if paper[0] == "right":
            self.truth(lets_paper(book, most, ("right", tuple(paper[1]))), True)

    def test_all_books(self):
        for book in all_books():
            self.check(book, 1)

    def test_greater_ones(self):
        for book in list(all_books())[::19]:
            self.check(book, 2)
        for book in RIGHT + [NONE]:
            self.check(book, 3)

    def test_of_another_book_or_most(self):
        for book in RIGHT:
            for other in RIGHT + [NONE]:
                told = set(paper_of(book, 1)[1])
                wanted = all(is_life(other, life, 1) for life in told) and told >= set(all_lives(other, 1))
                wanted = wanted and all(life[0] == "dropped" or life_reads(other, life) == life[2] for life in told)
                wanted = wanted and all(behind in told for life in told for _, behind in steps_of(other, life, 1))
                self.truth(lets_paper(other, 1, paper_of(book, 1)), wanted)
        for book in RIGHT:
            self.truth(lets_paper(book, 2, paper_of(book, 1)), False)
            self.truth(lets_paper(book, 1, paper_of(book, 2)), False)
        self.truth(lets_paper(Book(), 1, paper_of(NONE, 1)), False)
        self.truth(lets_paper(NONE, 1, paper_of(Book(), 1)), False)
        # What is read otherwise up to 1 is so up to 2, but not the other way round.
        self.truth(lets_paper(NONE, 2, paper_of(NONE, 1)), True)
        last = Book(mapping="last", touching=["fill"])
        self.truth(is_right(last, 1), True)
        self.truth(lets_paper(last, 2, paper_of(last, 2)), True)
        self.truth(lets_paper(last, 1, paper_of(last, 2)), False)

    def test_errors(self):
        for value in NO_BOOKS:
            self.fails(BadPart, "book", paper_of, value, 1)
            self.fails(BadPart, "book", paper_of, value, 0)
            self.fails(BadPart, "book", lets_paper, value, 1, None)
            self.fails(BadPart, "book", lets_paper, value, 0, None)
        for value in NO_MOSTS:
            self.fails(BadPart, "most", paper_of, Book(), value)
            self.fails(BadPart, "most", lets_paper, Book(), value, None)
            self.fails(BadPart, "most", lets_paper, Book(), value, ("right", []))


class Right(Case):

    def test_any_order_and_twice(self):
        chance = random.Random(13)
        for book in RIGHT:
            lives = all_lives(book, 1)
            for _ in range(3):
                chance.shuffle(lives)
                self.truth(lets_paper(book, 1, ("right", lives)), True)
                self.truth(lets_paper(book, 1, ("right", lives + lives[:5] + lives[::-1])), True)

    def test_a_life_too_few(self):
        for book in RIGHT:
            lives = all_lives(book, 1)
            needed = set(first_lives(book, 1))
            for index, life in enumerate(lives):
                rest = lives[:index] + lives[index + 1:]
                others = {behind for each in rest for _, behind in steps_of(book, each, 1)}
                self.assertTrue(life in needed or life in others)
                self.truth(lets_paper(book, 1, ("right", rest)), False)
            self.truth(lets_paper(book, 1, ("right", [])), False)
            self.truth(lets_paper(book, 1, ("right", first_lives(book, 1))), len(needed) == len(lives))

    def test_lives_that_do_not_come(self):
        # All that come of it come anyway: so the paper says what is so.
        book = Book(numbering="again", touching=TOUCHES)
        lives = all_lives(book, 1)
        more = (1, 0, 0, "missing", 0)
        self.assertNotIn(more, lives)
        self.truth(lets_paper(book, 1, ("right", lives + [more])), True)
        # Something would come of it that is not told.
        more = (1, 0, 0, 1, 0)
        self.assertNotIn(more, lives)
        self.truth(lets_paper(Book(numbering="again"), 1, ("right", lives + [more])), False)

    def test_what_is_no_life(self):
        for book in RIGHT:
            lives = all_lives(book, 1)
            for value in STRANGE + [None, 0, (1, 0, 0, "there"), (1, 0, 0, 2, 0), list(lives[0]), (True,) + lives[0][1:],
                                    (2, 2, 2, "there", 2), (1, 0, 0, Alike(), 0), ("dropped", "there"), ("lost", 0)]:
                self.truth(lets_paper(book, 1, ("right", lives + [value])), False, value)
                self.truth(lets_paper(book, 1, ("right", [value] + lives)), False, value)

    def test_what_is_read_otherwise(self):
        lives = all_lives(Book(), 1)
        for more in [(1, 0, 0, "there", 1), (1, 0, None, "missing", 0)]:
            self.truth(lets_paper(Book(), 1, ("right", lives + [more])), False)
        for book in [NONE, Book(missing="present"), Book(numbering="again"), Book(mapping="last")]:
            for most in [1, 2]:
                self.truth(lets_paper(book, most, ("right", all_lives(book, most))), False)

    def test_what_is_no_list(self):
        lives = all_lives(Book(), 1)
        for value in [set(lives), {life: True for life in lives}, iter(lives), None, 0, "right", object(), Alike()]:
            self.truth(lets_paper(Book(), 1, ("right", value)), False)

    def test_other_forms(self):
        lives = all_lives(Book(), 1)
        for value in STRANGE + [None, 0, ["right", lives], ("right",), ("right", lives, lives), ("Right", lives),
                                (lives, "right"), ("wrong", lives), (Alike(), lives), (True, lives), lives, tuple(lives),
                                (("right",), lives), {"right": lives}]:
            self.truth(lets_paper(Book(), 1, value), False)


class Wrong(Case):

    def setUp(self):
        self.history = History([Column("a", 1), Column("b", 1, 1)], [("add", "c", 1, 0), ("fill", "c", 1)])
        self.row = (0, ((0, 0), (1, None)))

    def test_rows_that_are_read_otherwise(self):
        self.truth(lets_paper(NONE, 1, ("wrong", self.history, self.row, "c")), True)
        for most in [2, 3]:
            self.truth(lets_paper(NONE, most, ("wrong", self.history, self.row, "c")), True)
        for row in all_stored(self.history, 0):
            self.truth(lets_paper(NONE, 1, ("wrong", self.history, row, "c")), True)

    def test_read_as_the_plain_table(self):
        for name in "ab":
            self.truth(lets_paper(NONE, 1, ("wrong", self.history, self.row, name)), False)
        for edition in [1, 2]:
            for row in all_stored(self.history, edition):
                self.truth(lets_paper(NONE, 1, ("wrong", self.history, row, "c")), False)
        for book in RIGHT:
            self.truth(lets_paper(book, 1, ("wrong", self.history, self.row, "c")), False)

    def test_no_name_of_a_column(self):
        for name in STRANGE + [None, 0, 2, "d", "C", ("c",)]:
            self.truth(lets_paper(NONE, 1, ("wrong", self.history, self.row, name)), False)
        history = self.history.then(("rename", "c", "d")).then(("drop", "a"))
        self.truth(lets_paper(NONE, 1, ("wrong", history, self.row, "d")), True)
        for name in "ac":
            self.truth(lets_paper(NONE, 1, ("wrong", history, self.row, name)), False)

    def test_no_row(self):
        for row in STRANGE + [None, 0, list(self.row), (0, ((0, 0), (1, 2))), (0, ((0, 0),)), (1, self.row[1]),
                              (3, self.row[1]), (None, self.row[1]), (0, ((0, 0), (1, True)))]:
            self.truth(lets_paper(NONE, 1, ("wrong", self.history, row, "c")), False)

    def test_barred_rows(self):
        history = History([Column("a", 2), Column("b", 1)], [("greatest", "a", 1, "refuse"), ("add", "c", 1, 0)])
        for value in [None, 0, 1, 2]:
            self.truth(lets_paper(NONE, 2, ("wrong", history, (0, ((0, value), (1, 0))), "c")), value != 2)

    def test_no_history(self):
        for value in STRANGE + [None, 0, History, [self.history]]:
            self.truth(lets_paper(NONE, 1, ("wrong", value, self.row, "c")), False)

    def test_greatest_values_above(self):
        for columns, changes in [
            ([Column("a", 2), Column("b", 1)], [("add", "c", 1, 0)]),
            ([Column("a", 2), Column("b", 1)], [("greatest", "a", 1, "cut"), ("add", "c", 1, 0)]),
            ([Column("a", 2), Column("b", 1)], [("drop", "a"), ("add", "c", 1, 0)]),
            ([Column("a", 1), Column("b", 1)], [("add", "c", 2, 0)]),
            ([Column("a", 1), Column("b", 1)], [("add", "c", 2, 0), ("greatest", "c", 1, "none")]),
            ([Column("a", 1), Column("b", 1)], [("add", "c", 1, 0), ("add", "d", 2, 0), ("drop", "d")]),
            ([Column("a", 1), Column("b", 1)], [("greatest", "b", 2, "cut"), ("greatest", "b", 1, "cut"),
                                                ("add", "c", 1, 0)]),
        ]:
            history = History(columns, changes)
            paper = ("wrong", history, self.row, "c")
            self.truth(lets_paper(NONE, 1, paper), False)
            self.truth(lets_paper(NONE, 2, paper), True)
            self.truth(lets_paper(NONE, 3, paper), True)

    def test_other_forms(self):
        history, row = self.history, self.row
        for value in [["wrong", history, row, "c"], ("wrong", history, row), ("wrong", history, row, "c", "c"),
                      ("right", history, row, "c"), (history, row, "c"), ("wrong",), ("wrong", row, history, "c"),
                      (Alike(), history, row, "c"), (None, history, row, "c"), ("wrong", "c", history, row)]:
            self.truth(lets_paper(NONE, 1, value), False)


class Example(Case):

    def test_by_name(self):
        paper = paper_of(most=1, book=Book())
        self.truth(lets_paper(value=paper, most=1, book=Book()), True)


if __name__ == "__main__":
    unittest.main()
