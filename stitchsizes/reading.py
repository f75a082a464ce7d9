"""Texts of sections, rows and patterns, read exactly: something is read only if it is written just so."""

from stitchsizes.blocks import first_without_back, slopes_cancel
from stitchsizes.errors import InvalidNumber, InvalidText, InvalidWord, UnknownKind
from stitchsizes.patterns import Cut, Merge, Pattern, Repeat, Step, Times, Until
from stitchsizes.phrases import read_count, read_number, read_runs, section_phrase
from stitchsizes.rows import RowText
from stitchsizes.sections import Evenly, Kept, Rested

_MOST_SECTIONS = 6
_MOST_ROWS = 240
_MOST_STEPS = 200
_MOST_TIMES = 60


def section_of(book, text):
    """The section text that a text is, or None."""
    try:
        found = _section_like(book, text)
    except (InvalidWord, InvalidText, InvalidNumber, UnknownKind):
        return None
    return found if section_phrase(found) == text else None


def row_of(book, text):
    """The row text that a text is, or None."""
    phrases = text.split(" | ")
    if len(phrases) > _MOST_SECTIONS:
        return None
    texts = [section_of(book, phrase) for phrase in phrases]
    return None if [found for found in texts if found is None] else RowText(*texts)


def _section_like(book, text):
    """A section text with the words that are found in a text; an error of a section text if there is none."""
    if "(" not in text:
        return _kept_like(book, text)
    return _evenly_like(book, text) if text.startswith("evenly ") else _rested_like(book, text)


def _rested_like(book, text):
    before, _, rest = text.partition("(")
    repeated, _, rest = rest.partition(") to last ")
    _, _, after = rest.partition(", ")
    return Rested(book, read_runs(book, before[:-2]), read_runs(book, repeated), read_runs(book, after))


def _kept_like(book, text):
    # In words there is never a blank right behind a name, so `keep`, `from` and `to` are found even if kinds have these
    # names; only the last name of the repeated word has one behind it, which is why its end is looked for from behind.
    before, _, rest = text.partition(", keep ")
    if text.startswith("keep "):
        before, _, rest = text.partition("keep ")
    repeated, _, rest = rest.rpartition(" from ")
    shift, _, rest = rest.partition(" to last ")
    _, _, after = rest.partition(", ")
    words = [read_runs(book, told) for told in (before, repeated, after)]
    return Kept(book, words[0], words[1], words[2], shift=read_count(shift))


def _evenly_like(book, text):
    _, _, rest = text.partition(" ")
    times, _, rest = rest.partition(" (")
    deed, _, plain = rest.partition(") in ")
    return Evenly(book, read_runs(book, deed), read_count(times), plain)


class PatternReader:
    """A pattern that is read line by line.

    It has what was read so far, and the head of the step whose rows are being read: a tuple of the first word of its
    line and of its parameters without the block, or None.
    """

    def __init__(self, book):
        self._book = book
        self._way = None
        self._cast_on = None
        self._sections = 0
        self._steps = []
        self._head = None
        self._rows = []

    def reads(self, line):
        """Reads the next line; whether it can stand there."""
        if self._way is None:
            self._way = line if line in ("round", "right", "wrong") else None
            return self._way is not None
        if self._cast_on is None:
            self._cast_on = _cast_on_of(line)
            self._sections = 0 if self._cast_on is None else len(self._cast_on)
            return self._cast_on is not None
        if line.startswith("- "):
            return self._reads_row(line[2:])
        return self._ends_block() and len(self._steps) < _MOST_STEPS and self._reads_step(line.split(" "))

    def is_whole(self):
        """Whether nothing is missing behind the lines that were read."""
        return self._cast_on is not None and self._ends_block()

    def result(self):
        """The pattern."""
        return Pattern(self._book, self._way, self._cast_on, self._steps)

    def _reads_row(self, text):
        if self._head is None or len(self._rows) == _MOST_ROWS:
            return False
        row = row_of(self._book, text)
        if row is None or len(row) != self._sections:
            return False
        if self._head[0] != "repeat" and [found for found in row.texts if isinstance(found, Evenly)]:
            return False
        if self._way != "round" and first_without_back(self._book, [row]) is not None:
            return False
        self._rows.append(row)
        return True

    def _ends_block(self):
        """Makes a step of the block that was read; whether it is one, or no step has been waiting for rows."""
        if self._head is None:
            return True
        if not self._rows or self._head[0] != "repeat" and not slopes_cancel(self._rows):
            return False
        self._steps.append(_step_of(self._head, self._rows))
        self._head = None
        self._rows = []
        return True

    def _reads_step(self, words):
        head = _head_of(words, self._sections)
        if head is None:
            return False
        if head[0] == "cut":
            self._steps.append(Cut(head[1], head[2], head[3]))
            self._sections = self._sections + 1
        elif head[0] == "merge":
            self._steps.append(Merge(head[1]))
            self._sections = self._sections - 1
        else:
            self._head = head
        return True


def _cast_on_of(line):
    """The cast-on that a line tells, or None."""
    if not line.startswith("cast on "):
        return None
    numbers = [read_number(form) for form in line[len("cast on "):].split(" | ")]
    if len(numbers) > _MOST_SECTIONS or [form for form in numbers if form is None or min(form) < 0]:
        return None
    return numbers


def _head_of(words, sections):
    """The first word of the line of a step, and its parameters without the block; None if it cannot stand there."""
    word = words[0]
    if word == "repeat":
        numbers = (read_count(" ".join(words[1:])),)
        return None if numbers[0] is None or numbers[0] > _MOST_TIMES else (word, *numbers)
    if word == "times":
        numbers = read_number(" ".join(words[1:]))
        return None if numbers is None else (word, *numbers)
    if word == "merge" and len(words) == 2:
        section = read_count(words[1])
        return None if section is None or section >= sections - 1 else (word, section)
    section = read_count(words[1]) if len(words) > 3 else None
    if section is None or section >= sections:
        return None
    told = " ".join(words[2:-1])
    loops = read_count(words[-1])
    if loops is None or word not in ("cut", "until") or word == "cut" and sections == _MOST_SECTIONS:
        return None
    return (word, section, told, loops) if told in (("right", "left") if word == "cut" else Step.WAYS) else None


def _step_of(head, rows):
    """The step with a head and a block."""
    if head[0] == "repeat":
        return Repeat(rows, head[1])
    if head[0] == "times":
        return Times(rows, head[1], head[2])
    return Until(rows, head[1], head[2], head[3])
