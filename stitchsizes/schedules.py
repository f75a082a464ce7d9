"""Sketches: patterns in which things are done at the same time."""

from math import lcm

from stitchsizes.blocks import first_without_back, is_row_beside
from stitchsizes.checks import is_count, is_count_to, is_integer, is_list_of, is_name
from stitchsizes.errors import (
    InvalidBlock, InvalidBooks, InvalidEdge, InvalidNumber, InvalidSchedules, InvalidSection, InvalidSteps, InvalidWay,
    InvalidWord, NoBack, TooMany,
)
from stitchsizes.kinds import Book
from stitchsizes.patterns import Cut, Merge, Step, can_follow, check_cast_on, sections_behind
from stitchsizes.sections import Kept, Rested

_MOST_NAMES = 12
_MOST_FIRST = 60
_MOST_EVERY = 24
_MOST_BASE = 24
_MOST_END = 160
_MOST_SCHEDULES = 6
_LONGEST_PERIOD = 240
_MOST_STEPS = 12
_MOST_ALONGS = 4


class Schedule:
    """A deed that is worked at an edge of a section in every so-manieth row, until it ends."""

    def __init__(self, section, edge, deed, first, every, *, times=None, until=None):
        if not is_count(section):
            raise InvalidSection(section)
        if not isinstance(edge, str) or edge not in ("right", "left"):
            raise InvalidEdge(edge)
        if not _is_deed(deed):
            raise InvalidWord(deed)
        if not is_count_to(first, _MOST_FIRST):
            raise InvalidNumber(first)
        if not is_count_to(every, _MOST_EVERY) or every == 0:
            raise InvalidNumber(every)
        if times is not None and not _is_number_of_rows(times):
            raise InvalidNumber(times)
        if until is not None and not is_count(until) or (times is None) == (until is None):
            raise InvalidNumber(until)
        self._section = section
        self._edge = edge
        self._deed = tuple(deed)
        self._first = first
        self._every = every
        self._times = times
        self._until = until

    @property
    def section(self):
        """The number of the section."""
        return self._section

    @section.setter
    def section(self, value):
        # Errors assign attributes of this name, so the property needs a setter; a schedule does not change.
        raise AttributeError("section")

    @property
    def edge(self):
        """The edge of the section, "right" or "left"."""
        return self._edge

    @property
    def deed(self):
        """The word that is worked."""
        return self._deed

    @property
    def first(self):
        """The first row that it meets."""
        return self._first

    @property
    def every(self):
        """By how much the number of each next row that it meets is greater."""
        return self._every

    @property
    def times(self):
        """The tuple (p, q) of p + q * n, the number of rows in which it is worked at size n, or None."""
        return self._times

    @property
    def until(self):
        """The number of loops at which it ends, or None."""
        return self._until

    def __eq__(self, other):
        return isinstance(other, Schedule) and _schedule_parts(self) == _schedule_parts(other)


class Along(Step):
    """A base, rows that are worked again and again, and schedules whose deeds are worked at their edges."""

    def __init__(self, base, schedules, *, rows=None):
        _check_base(base)
        if not is_list_of(schedules, 1, _MOST_SCHEDULES):
            raise InvalidSchedules(None)
        for position in range(len(schedules)):
            if not _can_stand(base[0], schedules, position):
                raise InvalidSchedules(position)
        if rows is not None and not _is_number_of_rows(rows):
            raise InvalidNumber(rows)
        if _period_of(base, schedules) > _LONGEST_PERIOD:
            raise TooMany("period", _LONGEST_PERIOD)
        self._base = tuple(base)
        self._schedules = tuple(schedules)
        self._rows = rows

    @property
    def base(self):
        """The row texts."""
        return self._base

    @property
    def schedules(self):
        """The schedules."""
        return self._schedules

    @property
    def rows(self):
        """The tuple (p, q) of the number of rows, or None if it ends with its schedules."""
        return self._rows

    def __eq__(self, other):
        if not isinstance(other, Along) or self._rows != other._rows:
            return False
        return self._base == other._base and self._schedules == other._schedules


class Sketch:
    """A way to work, the loops that are cast on in each section at each size, and steps, also with ALONGs."""

    def __init__(self, book, way, cast_on, steps):
        if not isinstance(book, Book):
            raise InvalidBooks()
        if not isinstance(way, str) or way not in ("round", "right", "wrong"):
            raise InvalidWay(way)
        check_cast_on(cast_on)
        if not is_list_of(steps, 0, _MOST_STEPS):
            raise InvalidSteps(None)
        sections = len(cast_on)
        alongs = 0
        for position, step in enumerate(steps):
            alongs = alongs + (1 if isinstance(step, Along) else 0)
            if alongs > _MOST_ALONGS or not _can_follow(book, sections, step):
                raise InvalidSteps(position)
            sections = sections_behind(sections, step)
        if way != "round":
            _check_backs(book, steps)
        self._book = book
        self._way = way
        self._cast_on = tuple(cast_on)
        self._steps = tuple(steps)

    @property
    def book(self):
        """The book of the texts."""
        return self._book

    @property
    def way(self):
        """The way to work: "round", or the side of the first row, "right" or "wrong"."""
        return self._way

    @property
    def cast_on(self):
        """The tuples (p, q) of the sections."""
        return self._cast_on

    @property
    def steps(self):
        """The steps."""
        return self._steps

    def __len__(self):
        return len(self._steps)

    def __eq__(self, other):
        if not isinstance(other, Sketch) or self._book != other._book or self._way != other._way:
            return False
        return self._cast_on == other._cast_on and self._steps == other._steps


def _is_deed(value):
    if not isinstance(value, tuple) or not 1 <= len(value) <= _MOST_NAMES:
        return False
    return all([is_name(name) for name in value])


def _is_number_of_rows(value):
    """Whether any value is a tuple of an integer and a count."""
    return isinstance(value, tuple) and len(value) == 2 and is_integer(value[0]) and is_count(value[1])


def _schedule_parts(schedule):
    ends = (schedule.times, schedule.until)
    return (schedule.section, schedule.edge, schedule.deed, schedule.first, schedule.every, ends)


def _check_base(base):
    """Raises InvalidBlock unless a value is a list of row texts that can be the base of an ALONG."""
    if not is_list_of(base, 1, _MOST_BASE):
        raise InvalidBlock(None)
    for position in range(len(base)):
        if not is_row_beside(base, position) or not all([_is_base_text(text) for text in base[position].texts]):
            raise InvalidBlock(position)


def _is_base_text(text):
    """Whether the counts that a section text fits stay a progression with the same step where it is worked."""
    if isinstance(text, Kept):
        return not text.before and not text.after
    if not isinstance(text, Rested) or max(len(text.before), len(text.after)) > _MOST_END:
        return False
    return text.slope() == (1, 1)


def _can_stand(row, schedules, position):
    """Whether the value at a position can be a schedule beside those ahead of it, for a base with such a row."""
    schedule = schedules[position]
    if not isinstance(schedule, Schedule) or schedule.section >= len(row) or not row.book.is_word(schedule.deed):
        return False
    ahead = [other for other in schedules[:position] if other.section == schedule.section]
    return schedule.until is None or all([other.until is None for other in ahead])


def _period_of(base, schedules):
    """After how many rows base texts, schedules and KEPT texts begin anew together, at the most."""
    rows = len(base)
    for schedule in schedules:
        rows = lcm(rows, schedule.every)
    letters = 1
    for row in base:
        for text in row.texts:
            letters = lcm(letters, len(text.repeated)) if isinstance(text, Kept) else letters
    return rows * letters


def _can_follow(book, sections, step):
    """Whether any value is a step of a sketch that can be worked with so many sections."""
    if isinstance(step, Along):
        return step.base[0].book == book and len(step.base[0]) == sections
    return can_follow(book, sections, step)


def _check_backs(book, steps):
    """Raises NoBack with the first kind of the texts and deeds that has no back."""
    for step in steps:
        name = None
        if isinstance(step, Along):
            name = first_without_back(book, step.base)
            deeds = [word for schedule in step.schedules for word in schedule.deed]
            lacking = [word for word in deeds if book.kind(word).back is None]
            name = lacking[0] if name is None and lacking else name
        elif not isinstance(step, (Cut, Merge)):
            name = first_without_back(book, step.block)
        if name is not None:
            raise NoBack(name)
