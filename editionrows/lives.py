"""Lives: all that a plain table and a book go by for one number and one row, over all histories."""

from editionrows.books import check_book, last_value, latest_signs, ordered_value
from editionrows.changes import WAYS
from editionrows.columns import Column
from editionrows.errors import BadLife, BadPart, TooMany
from editionrows.histories import History
from editionrows.stored import store
from editionrows.values import MISSING, is_missing, is_whole, is_within, is_word, values_to

DROPPED = "dropped"
THERE = "there"
SIGN_WAYS = ("cut", "none", "")
GREATEST_MOST = 3
MOST_LIVES = 20000
OWN_NAME = "a"
OTHER_NAME = "b"


def check_asked(book, most):
    """Raises BadPart for what is no Book, then for what is no G."""
    check_book(book)
    if not is_whole(most) or not 1 <= most <= GREATEST_MOST:
        raise BadPart("most")


def is_dropped(life):
    """Whether no column has the number of a life."""
    return life[0] == DROPPED


def is_kept(book, stored):
    """Whether what is read in a life begins with a value that is remembered: a stored one or a kept default."""
    return not is_missing(stored) or book.missing == "kept"


def is_memory(book, stored, value, most):
    """Whether any value is a memory beside what is stored."""
    if book.mapping == "order":
        return is_within(value, most) if is_kept(book, stored) else value is None
    if not isinstance(value, tuple) or len(value) != 3:
        return False
    start, way, fill = value
    if is_missing(stored) and is_kept(book, stored):
        fits = is_within(start, most)
    else:
        fits = start is None
    return fits and is_word(way, SIGN_WAYS) and is_within(fill, most)


def is_stored_part(book, value, most):
    """Whether any value can stand in a life for what is stored."""
    if is_missing(value):
        return True
    if needs_stored(book):
        return is_within(value, most)
    return is_word(value, (THERE,))


def needs_stored(book):
    """Whether a life has to tell what is stored: whether it is read once more, by other changes."""
    return book.numbering == "again" or book.mapping == "last"


def has_form(book, value, most):
    """As is_life, for what is known to be a Book and a G."""
    if not isinstance(value, tuple):
        return False
    if len(value) == 2:
        return (book.numbering == "again" and is_word(value[0], (DROPPED,))
                and is_stored_part(book, value[1], most))
    if len(value) != 5 or not is_whole(value[0]) or not 1 <= value[0] <= most:
        return False
    greatest, default, plain, stored, memory = value
    return (is_within(default, greatest) and is_within(plain, greatest) and is_stored_part(book, stored, most)
            and is_memory(book, stored, memory, most))


def is_life(book, value, most):
    """Whether any value is a life of a book by its form, with greatest values up to a G."""
    check_asked(book, most)
    return has_form(book, value, most)


def begun_life(book, greatest, default, plain, stored):
    """The life of a column behind which nothing is done yet to what is stored, or missing."""
    start = default if is_missing(stored) else stored
    told = stored if is_missing(stored) or needs_stored(book) else THERE
    if book.mapping == "order":
        memory = start if is_kept(book, stored) else None
    else:
        memory = (start if is_missing(stored) and is_kept(book, stored) else None, "", None)
    return (greatest, default, plain, told, memory)


def written_life(book, greatest, default, value):
    """The life of a column with a value that has just been stored."""
    return begun_life(book, greatest, default, value, value)


def added_life(book, greatest, default, stored):
    """The life of a column that has just been added, where something is stored under its number, or missing."""
    if "add" in book.touching:
        return written_life(book, greatest, default, default)
    return begun_life(book, greatest, default, default, stored)


def columns_to(most):
    """The tuples (greatest value, default) of all columns up to a G."""
    return [(greatest, default) for greatest in range(1, most + 1) for default in values_to(greatest)]


def written_lives(book, most):
    """The lives that begin as written."""
    return [written_life(book, greatest, default, value) for greatest, default in columns_to(most)
            for value in values_to(greatest)]


def first_lives(book, most):
    """The lives that begin: those as written, then those by an add, each once."""
    check_asked(book, most)
    written = written_lives(book, most)
    added = [added_life(book, greatest, default, MISSING) for greatest, default in columns_to(most)]
    return written + [life for life in added if life not in written]


def own_steps(book, life, most):
    """The steps of a life that are changes of its own column."""
    if is_dropped(life):
        return [("add", greatest, default) for greatest, default in columns_to(most)]
    greatest, default, plain, _, _ = life
    steps = [("greatest", least, way) for least in range(1, most + 1) for way in WAYS
             if way != "refuse" or (is_within(default, least) and is_within(plain, least))]
    steps.extend([("default", value) for value in values_to(greatest)])
    steps.extend([("fill", value) for value in range(greatest + 1)])
    if book.numbering == "again":
        steps.append(("drop",))
    return steps


def other_steps(book, life):
    """The steps of a life that are changes of another column."""
    # The number that is dropped last is no longer this one behind such a drop, and is given by such an add.
    return [("other", kind) for kind in book.touching if not is_dropped(life) or kind not in ("add", "drop")]


def changed_memory(book, life, step):
    """What a change of the column of a life makes of its memory."""
    greatest, _, _, stored, memory = life
    if book.mapping == "last":
        return (memory[0],) + latest_signs(greatest, step, memory[1:])
    return ordered_value(greatest, step, memory) if is_kept(book, stored) else memory


def changed_life(book, life, step):
    """What comes of a life by a step that does not add its column, if nothing is touched."""
    if step[0] == "other":
        return life
    greatest, default, plain, stored, _ = life
    if step[0] == "drop":
        return (DROPPED, stored)
    memory = changed_memory(book, life, step)
    if step[0] == "default":
        return (greatest, step[1], plain, stored, memory)
    # A refuse among the steps is one that changes neither the default nor the plain value.
    plain = ordered_value(greatest, step, plain)
    if step[0] == "fill":
        return (greatest, default, plain, stored, memory)
    return (step[1], ordered_value(greatest, step, default), plain, stored, memory)


def life_behind(book, life, step):
    """What comes of a life by one of its steps."""
    if step[0] == "add":
        return added_life(book, step[1], step[2], life[1])
    behind = changed_life(book, life, step)
    kind = step[1] if step[0] == "other" else step[0]
    if kind not in book.touching:
        return behind
    if is_dropped(behind):
        return (DROPPED, MISSING)
    return written_life(book, behind[0], behind[1], behind[2])


def steps_from(book, life, most):
    """As steps_of, for what is known to be a Book, a life of it and a G."""
    steps = own_steps(book, life, most) + other_steps(book, life)
    return [(step, life_behind(book, life, step)) for step in steps]


def steps_of(book, life, most):
    """The steps of a life, each in a tuple with the life that comes of it."""
    check_asked(book, most)
    if not has_form(book, life, most):
        raise BadLife(life)
    return steps_from(book, life, most)


def read_in(book, life):
    """What a book reads in a life that is not dropped."""
    greatest, default, _, stored, memory = life
    if not is_kept(book, stored):
        return default if book.missing == "present" else None
    if book.mapping == "order":
        return memory
    return last_value(greatest, memory[1:], memory[0] if is_missing(stored) else stored)


def life_reads(book, life):
    """What a book reads in a life."""
    check_book(book)
    if not has_form(book, life, GREATEST_MOST) or is_dropped(life):
        raise BadLife(life)
    return read_in(book, life)


def is_plain(book, life):
    """Whether a book reads the plain value in a life, or reads nothing as its column is dropped."""
    return is_dropped(life) or read_in(book, life) == life[2]


def all_lives(book, most):
    """All lives that come."""
    lives = {life: True for life in first_lives(book, most)}
    level = list(lives)
    while len(level) > 0:
        arrived = [behind for life in level for _, behind in steps_from(book, life, most)]
        level = []
        for life in arrived:
            if life not in lives:
                lives[life] = True
                level.append(life)
        if len(lives) > MOST_LIVES:
            raise TooMany(MOST_LIVES)
    return list(lives)


def is_default_read(book, life):
    """Whether a book reads the present default in a life."""
    return not is_dropped(life) and not is_kept(book, life[3]) and book.missing == "present"


def needed_steps(book, life, most):
    """The steps of a life without those that a search for a shortest break can leave out."""
    steps = own_steps(book, life, most) + other_steps(book, life)
    if is_default_read(book, life):
        return steps
    # None hinders no refuse, so where no default is read it can stand for each other default.
    return [step for step in steps if step[0] != "default" or step[1] is None]


def needed_starts(book, most):
    """What a search for a shortest break begins with: tuples (life, life as written or None)."""
    # A number that no column had yet goes on as one that is dropped with nothing stored under it.
    starts = [((DROPPED, MISSING), None)]
    for greatest in range(1, most + 1):
        for value in values_to(greatest):
            life = written_life(book, greatest, None, value)
            starts.append((life, life))
    return starts


def breaking_way(book, most):
    """As few steps as lead to a life that is not read as the plain table has it, or None if there is no such life.

    They are a tuple (life as written, steps), or (None, steps) where the first step is an add.
    """
    level = [(life, first, ()) for life, first in needed_starts(book, most)]
    known = {life: True for life, _, _ in level}
    while len(level) > 0:
        arrived = []
        for life, first, steps in level:
            for step in needed_steps(book, life, most):
                behind = life_behind(book, life, step)
                if behind not in known:
                    known[behind] = True
                    arrived.append((behind, first, steps + (step,)))
                    if not is_plain(book, behind):
                        return (first, steps + (step,))
        level = arrived
    return None


def is_right(book, most):
    """Whether a book reads the plain value in all lives that come."""
    check_asked(book, most)
    return breaking_way(book, most) is None


def history_of(first, steps):
    """A tuple (History, row) that goes the way to a life."""
    # A touch makes a life that begins, so no way with as few changes as can be has a step of another column; one
    # stands there for an add to have an elder row, and for a drop not to take the only column away.
    changes = [(step[0], OWN_NAME) + step[1:] for step in steps]
    if first is None:
        history = History([Column(OTHER_NAME, 1)], changes)
        return (history, store(history, {}, edition=0))
    history = History([Column(OWN_NAME, first[0], first[1]), Column(OTHER_NAME, 1)], changes)
    return (history, store(history, {OWN_NAME: first[2]}, edition=0))


def least_break(book, most):
    """None if a book is right, otherwise a tuple (History, row, name) with as few changes as possible."""
    check_asked(book, most)
    way = breaking_way(book, most)
    return None if way is None else history_of(way[0], way[1]) + (OWN_NAME,)
