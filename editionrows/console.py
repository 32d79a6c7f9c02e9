"""A console: lines of text that go on with a live table, and answers about it."""

from editionrows.errors import BadLine
from editionrows.live import Live
from editionrows.texts import change_of, is_number_text, told_of, write_history, write_told, write_value

DONE = "ok"
NUMBER_FIGURES = 3
TRY = "try "


def told_behind(blank, text):
    """What is told behind a blank, or {} where there is neither; None if this is no telling."""
    return None if blank != "" and text == "" else told_of(text)


def write_step(blank, text):
    """The step of a line that begins with `write`, or None."""
    told = told_behind(blank, text)
    return None if told is None else ("write", told)


def late_step(text):
    """The step of a line that begins with `late`, by what is behind this, or None."""
    edition, blank, rest = text.partition(" ")
    told = told_behind(blank, rest)
    if told is None or not is_number_text(edition, NUMBER_FIGURES):
        return None
    return ("late", int(edition), told)


def step_of(line):
    """The step that a line asks for, a tuple of a word and what belongs to it, or None."""
    change = change_of(line)
    if change is not None:
        return ("change", change)
    if line in ("touch all", "undo"):
        return (line,)
    word, blank, rest = line.partition(" ")
    if word == "write":
        return write_step(blank, rest)
    if word == "late":
        return late_step(rest)
    if word == "touch" and is_number_text(rest, NUMBER_FIGURES):
        return ("touch", int(rest))
    return None


def answer_of_step(live, step):
    """Takes a step of a live table, and returns the answer."""
    word = step[0]
    if word == "write":
        return str(live.write(step[1]))
    if word == "late":
        return str(live.write_late(step[1], step[2]))
    if word == "change":
        live.change(step[1])
    elif word == "touch":
        live.touch(step[1])
    elif word == "touch all":
        live.touch_all()
    else:
        live.undo()
    return DONE


def write_row(row):
    """The text of a stored row: its edition, then each number and value."""
    return " ".join([str(row[0])] + [f"{number} {write_value(value)}" for number, value in row[1]])


def answer_of_question(live, line):
    """What a line asks of a live table, or None if it asks nothing."""
    word, _, rest = line.partition(" ")
    if word in ("read", "row") and is_number_text(rest, NUMBER_FIGURES):
        index = int(rest)
        return write_told(live.read(index)) if word == "read" else write_row(live.stored(index))
    if line == "columns":
        return " ".join([column.name for column in live.history.columns()])
    if line == "count":
        return str(len(live))
    return write_history(live.history) if line == "history" else None


class Console:
    """A live table that is gone on with by lines."""

    def __init__(self, history):
        self.live = Live(history)

    def answer(self, line):
        """The answer to a line."""
        if not isinstance(line, str):
            raise BadLine(line)
        if line.startswith(TRY):
            return self._tried(line)
        step = step_of(line)
        answer = answer_of_question(self.live, line) if step is None else answer_of_step(self.live, step)
        if answer is None:
            raise BadLine(line)
        return answer

    def _tried(self, line):
        step = step_of(line[len(TRY):])
        if step is None:
            raise BadLine(line)
        with self.live.trying() as live:
            return answer_of_step(live, step)
