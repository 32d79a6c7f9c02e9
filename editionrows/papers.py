"""Papers: what shows that a book is right, or that it is not, and a small checker of them."""

from editionrows.books import book_reads
from editionrows.columns import column_named
from editionrows.histories import History
from editionrows.lives import all_lives, check_asked, first_lives, is_life, is_plain, least_break, steps_of
from editionrows.stored import followed, is_stored
from editionrows.values import is_list, is_word


def paper_of(book, most):
    """A paper of a book and a G."""
    found = least_break(book, most)
    if found is None:
        return ("right", all_lives(book, most))
    return ("wrong",) + found


def lets_paper(book, most, value):
    """Whether any value is a paper of a book and a G."""
    check_asked(book, most)
    if not isinstance(value, tuple):
        return False
    if len(value) == 2 and is_word(value[0], ("right",)):
        return shows_right(book, most, value[1])
    if len(value) == 4 and is_word(value[0], ("wrong",)):
        return shows_wrong(book, most, value[1:])
    return False


def shows_right(book, most, lives):
    """Whether any value is lives, all read as the plain table has it, with all that begin and come of them."""
    if not is_list(lives) or not all([is_life(book, life, most) for life in lives]):
        return False
    told = {life: True for life in lives}
    if not all([life in told for life in first_lives(book, most)]):
        return False
    return all([is_plain(book, life) and steps_stay(book, most, life, told) for life in told])


def steps_stay(book, most, life, told):
    """Whether all that comes of a life by a step is told."""
    return all([behind in told for _, behind in steps_of(book, life, most)])


def shows_wrong(book, most, parts):
    """Whether any three values are a History, a stored row and a name that is read otherwise than the plain table."""
    history, row, name = parts
    if not isinstance(history, History) or not is_stored(history, row):
        return False
    if most_greatest(history) > most or column_named(history.columns(), name) is None:
        return False
    plain = followed(history, row)
    return plain is not None and book_reads(book, history, row)[name] != plain[name]


def most_greatest(history):
    """The greatest of all greatest values in a history."""
    return max([int(column.greatest) for edition in range(len(history) + 1) for column in history.columns(edition)])
