"""Families: long words whose parts stand as often as forms say."""

from stitchsizes.cells import Cell
from stitchsizes.checks import is_count, is_integer, is_list_of, is_name
from stitchsizes.errors import (
    BelowZero, InvalidBooks, InvalidCell, InvalidFamily, InvalidForm, InvalidParts, InvalidPoint, InvalidTexts,
    InvalidWord, NotFitting, UnknownKind,
)
from stitchsizes.forms import Form
from stitchsizes.items import is_power, put_in_order, root_and_times
from stitchsizes.kinds import Book
from stitchsizes.longwords import LongWord
from stitchsizes.sections import Evenly, Kept, SectionText

_MOST_PARTS = 400


class Family:
    """Words that stand one behind the other, each as often as its form says at a point."""

    def __init__(self, book, parts):
        if not isinstance(book, Book):
            raise InvalidBooks()
        if not is_list_of(parts, 0, _MOST_PARTS):
            raise InvalidParts(None)
        for position, part in enumerate(parts):
            if not _is_part(book, part):
                raise InvalidParts(position)
        self._book = book
        self._parts = tuple([(word, _form_of(number)) for word, number in parts])

    @property
    def book(self):
        """The book of the words."""
        return self._book

    @property
    def parts(self):
        """The tuples (word, Form)."""
        return self._parts

    @property
    def length(self):
        """How many letters there are, a form."""
        return _sum_of([form * len(word) for word, form in self._parts])

    def count(self, name):
        """How often a name is the letter, a form."""
        if name not in self._book:
            raise UnknownKind(name)
        return _sum_of([form * word.count(name) for word, form in self._parts])

    def at(self, x, y=0):
        """The long word at a point."""
        for number in (x, y):
            if not is_count(number):
                raise InvalidPoint(number)
        parts = [(word, form.at(x, y)) for word, form in self._parts]
        for position, (_, number) in enumerate(parts):
            if number < 0:
                raise BelowZero(position)
        return LongWord(self._book, parts)

    def put(self, first, second):
        """The family that results if x is replaced by one form, and y by another one."""
        for form in (first, second):
            if not isinstance(form, Form):
                raise InvalidForm(form)
        return Family(self._book, [(word, form.put(first, second)) for word, form in self._parts])

    def in_order(self):
        """The list of the items in order: letters, which are names, and powers, which are tuples (word, Form)."""
        found = []
        for item in put_in_order(self._parts):
            if is_power(item):
                found.append(item)
            else:
                found.extend(item[0])
        return found

    def is_over(self, cell):
        """Whether no form is below 0 at any point of a cell."""
        if not isinstance(cell, Cell):
            raise InvalidCell(None)
        return part_below(self, cell) is None

    def __add__(self, other):
        if not isinstance(other, Family) or other._book != self._book:
            raise InvalidFamily(other)
        return Family(self._book, self._parts + other._parts)

    def __eq__(self, other):
        return isinstance(other, Family) and self._book == other._book and self._parts == other._parts


def root_of(word):
    """The shortest word of which a word is a repetition, and how often it stands in it."""
    if not isinstance(word, tuple) or len(word) == 0 or not all([is_name(name) for name in word]):
        raise InvalidWord(word)
    return root_and_times(word)


def period_of(text):
    """The number of loops with which a section text begins anew."""
    if not isinstance(text, SectionText):
        raise InvalidTexts(0)
    if isinstance(text, Evenly):
        return text.times + 1
    if isinstance(text, Kept):
        return len(text.repeated)
    return text.book.taken(text.repeated)


def text_family(text, loops):
    """The family of the words that a section text makes of so many loops as a form says."""
    period = period_of(text)
    if not isinstance(loops, Form) or not _is_multiple(loops.x, period) or not _is_multiple(loops.y, period):
        raise InvalidForm(loops)
    if not _fits_somewhere(text, loops):
        raise NotFitting(0, loops.constant)
    return Family(text.book, parts_of_text(text, loops))


def parts_of_text(text, loops):
    """The parts of the family of the words that a section text makes of so many loops as a form says, which fits."""
    period = period_of(text)
    over = loops - text.counts()[0]
    # What is left of the number behind the whole periods; the factors are multiples of the period.
    rest = over.constant if period == 0 else over.constant % period
    times = Form() if period == 0 else _divided(over - rest, period)
    if isinstance(text, Evenly):
        parts = _even_runs(text, times, rest)
    elif isinstance(text, Kept):
        shifted = text.repeated[text.shift:] + text.repeated[:text.shift]
        parts = [(text.before, 1), (shifted, times), (shifted[:rest], 1), (text.after, 1)]
    else:
        parts = [(text.before, 1), (text.repeated, times), (text.after, 1)]
    return [(word, number) for word, number in parts if len(word) > 0]


def part_below(family, cell):
    """The position of the first part of a family whose form is below 0 at a point of a cell, or None."""
    for position, (_, form) in enumerate(family.parts):
        may_be_below = form.x < 0 or form.y < 0 or form.constant < 0
        if may_be_below and not cell.with_conditions(-form - 1).is_empty:
            return position
    return None


def _is_part(book, part):
    if not isinstance(part, tuple) or len(part) != 2 or not book.is_word(part[0]) or len(part[0]) == 0:
        return False
    if isinstance(part[1], Form):
        return not part[1].is_number or part[1].constant >= 0
    return is_count(part[1])


def _form_of(number):
    return Form(0, 0, number) if is_integer(number) else number


def _sum_of(forms):
    total = Form()
    for form in forms:
        total = total + form
    return total


def _is_multiple(factor, period):
    return factor == 0 if period == 0 else factor % period == 0


def _divided(form, divisor):
    return Form(form.x // divisor, form.y // divisor, form.constant // divisor)


def _fits_somewhere(text, loops):
    """Whether a text fits one of the integers that a form has at integers x and y."""
    if loops.is_number:
        return text.fits(loops.constant)
    # The factors are multiples of the step, so they do not change what is left of the division by it.
    first, step = text.counts()
    return (loops.constant - first) % step == 0


def _even_runs(text, times, rest):
    """The runs of plain stitches, each `times` long and some of them one longer, with the deed between."""
    runs = text.times + 1
    plain = (text.plain,)
    parts = [(plain, times)]
    for place in range(1, runs):
        more = (place + 1) * rest // runs - place * rest // runs
        parts.extend([(text.deed, 1), (plain, times + more)])
    return parts
