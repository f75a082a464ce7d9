"""Patterns: a cast-on and steps, for all sizes at once."""

from stitchsizes.blocks import check_block, first_without_back, is_steady
from stitchsizes.checks import is_count, is_count_to, is_integer, is_list_of
from stitchsizes.errors import (
    InvalidBooks, InvalidCastOn, InvalidEdge, InvalidNumber, InvalidSection, InvalidSteps, InvalidWay, NoBack,
)
from stitchsizes.kinds import Book

_MOST_TIMES = 60
_MOST_SECTIONS = 6
_MOST_STEPS = 200


class Step:
    """A step of a pattern. It is not created itself."""

    WAYS = ("just", "at most", "at least")

    def __init__(self):
        raise NotImplementedError()


class Repeat(Step):
    """A block that is worked some times, whatever the size is."""

    def __init__(self, block, times):
        check_block(block)
        if not is_count_to(times, _MOST_TIMES):
            raise InvalidNumber(times)
        self._block = tuple(block)
        self._times = times

    @property
    def block(self):
        """The row texts."""
        return self._block

    @property
    def times(self):
        """How often the block is worked."""
        return self._times

    def __eq__(self, other):
        return isinstance(other, Repeat) and self._block == other._block and self._times == other._times


class Times(Step):
    """A block that is worked p + q * n times at size n."""

    def __init__(self, block, p, q):
        check_block(block)
        for number in (p, q):
            if not is_integer(number):
                raise InvalidNumber(number)
        self._block = tuple(block)
        self._p = p
        self._q = q

    @property
    def block(self):
        """The row texts."""
        return self._block

    @property
    def p(self):
        """How often the block is worked at size 0, or a number below 0."""
        return self._p

    @property
    def q(self):
        """How much more often the block is worked at each next size."""
        return self._q

    def __eq__(self, other):
        if not isinstance(other, Times):
            return False
        return self._block == other._block and self._p == other._p and self._q == other._q


class Until(Step):
    """A block that is worked until a section has so many loops."""

    def __init__(self, block, section, way, loops):
        check_block(block)
        _check_count(loops)
        _check_section(section)
        if not isinstance(way, str) or way not in Step.WAYS:
            raise InvalidWay(way)
        self._block = tuple(block)
        self._section = section
        self._way = way
        self._loops = loops

    @property
    def block(self):
        """The row texts."""
        return self._block

    @property
    def section(self):
        """The number of the section that is looked at."""
        return self._section

    @section.setter
    def section(self, value):
        # Errors assign attributes of this name, so the property needs a setter; a step does not change.
        raise AttributeError("section")

    @property
    def way(self):
        """How the section is looked at, one of Step.WAYS."""
        return self._way

    @property
    def loops(self):
        """The number of loops with which the loops of the section are compared."""
        return self._loops

    @loops.setter
    def loops(self, value):
        # For the same reason as the setter of the section.
        raise AttributeError("loops")

    def __eq__(self, other):
        return isinstance(other, Until) and self._block == other._block and _until_parts(self) == _until_parts(other)


class Cut(Step):
    """Loops at an edge of a section become a section of their own."""

    def __init__(self, section, edge, loops):
        _check_count(loops)
        _check_section(section)
        if not isinstance(edge, str) or edge not in ("right", "left"):
            raise InvalidEdge(edge)
        self._section = section
        self._edge = edge
        self._loops = loops

    @property
    def section(self):
        """The number of the section that is cut."""
        return self._section

    @section.setter
    def section(self, value):
        # For the same reason as the setters of Until.
        raise AttributeError("section")

    @property
    def edge(self):
        """The edge of the section, "right" or "left"."""
        return self._edge

    @property
    def loops(self):
        """The number of loops of the new section."""
        return self._loops

    @loops.setter
    def loops(self, value):
        # For the same reason as the setters of Until.
        raise AttributeError("loops")

    def __eq__(self, other):
        return isinstance(other, Cut) and _cut_parts(self) == _cut_parts(other)


class Merge(Step):
    """A section and the next one, to its left, become one."""

    def __init__(self, section):
        _check_section(section)
        self._section = section

    @property
    def section(self):
        """The number of the section that becomes one with the next one."""
        return self._section

    @section.setter
    def section(self, value):
        # For the same reason as the setters of Until.
        raise AttributeError("section")

    def __eq__(self, other):
        return isinstance(other, Merge) and self._section == other._section


class Pattern:
    """A way to work, the loops that are cast on in each section at each size, and steps."""

    def __init__(self, book, way, cast_on, steps):
        if not isinstance(book, Book):
            raise InvalidBooks()
        if not isinstance(way, str) or way not in ("round", "right", "wrong"):
            raise InvalidWay(way)
        check_cast_on(cast_on)
        if not is_list_of(steps, 0, _MOST_STEPS):
            raise InvalidSteps(None)
        sections = [len(cast_on)]
        for position, step in enumerate(steps):
            if not can_follow(book, sections[position], step):
                raise InvalidSteps(position)
            sections.append(sections_behind(sections[position], step))
        if way != "round":
            _check_backs(book, steps)
        self._book = book
        self._way = way
        self._cast_on = tuple(cast_on)
        self._steps = tuple(steps)
        self._sections = tuple(sections)

    @property
    def book(self):
        """The book of the texts."""
        return self._book

    @property
    def way(self):
        """The way to work: "round", or the side of the first row, "right" or "wrong"."""
        return self._way

    @property
    def cast_on(self):
        """The tuples (p, q) of the sections."""
        return self._cast_on

    @property
    def steps(self):
        """The steps."""
        return self._steps

    def sections_at(self, step):
        """How many sections there are ahead of a step, or at the end for the number of steps."""
        if not is_count_to(step, len(self._steps)):
            raise InvalidNumber(step)
        return self._sections[step]

    def with_steps(self, *steps):
        """The pattern with these steps behind its own."""
        return Pattern(self._book, self._way, self._cast_on, [*self._steps, *steps])

    def __len__(self):
        return len(self._steps)

    def __eq__(self, other):
        if not isinstance(other, Pattern) or self._book != other._book or self._way != other._way:
            return False
        return self._cast_on == other._cast_on and self._steps == other._steps


def check_cast_on(cast_on):
    """Raises InvalidCastOn unless a value is a list of tuples of two counts, one for each section."""
    if not is_list_of(cast_on, 1, _MOST_SECTIONS):
        raise InvalidCastOn(None)
    for position, loops in enumerate(cast_on):
        if not isinstance(loops, tuple) or len(loops) != 2 or not is_count(loops[0]) or not is_count(loops[1]):
            raise InvalidCastOn(position)


def can_follow(book, sections, step):
    """Whether any value is a step of a pattern that can be worked with so many sections."""
    if isinstance(step, Cut):
        return step.section < sections < _MOST_SECTIONS
    if isinstance(step, Merge):
        return step.section < sections - 1
    if not isinstance(step, (Repeat, Times, Until)) or step.block[0].book != book or len(step.block[0]) != sections:
        return False
    if isinstance(step, Repeat):
        return True
    if isinstance(step, Until) and step.section >= sections:
        return False
    return is_steady(step.block)


def sections_behind(sections, step):
    """How many sections there are behind a step."""
    if isinstance(step, Cut):
        return sections + 1
    if isinstance(step, Merge):
        return sections - 1
    return sections


def resized_step(step, start, factor):
    """The step with start + factor * n in the place of the size n."""
    if isinstance(step, Times):
        return Times(step.block, step.p + step.q * start, step.q * factor)
    return step


def _check_count(number):
    if not is_count(number):
        raise InvalidNumber(number)


def _check_section(section):
    if not is_count(section):
        raise InvalidSection(section)


def _until_parts(step):
    return (step.section, step.way, step.loops)


def _cut_parts(step):
    return (step.section, step.edge, step.loops)


def _check_backs(book, steps):
    """Raises NoBack with the first kind of the blocks that has no back."""
    for step in steps:
        name = first_without_back(book, step.block) if isinstance(step, (Repeat, Times, Until)) else None
        if name is not None:
            raise NoBack(name)
