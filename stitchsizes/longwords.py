"""Long words: rows that are given as repeated words."""

from stitchsizes.checks import is_count, is_count_to, is_list_of
from stitchsizes.errors import InvalidBooks, InvalidNumber, InvalidParts, InvalidWord, UnknownKind
from stitchsizes.kinds import Book
from stitchsizes.runs import letter_count, letters_from, run_length, tidy, unlike_place

_MOST_PARTS = 400
_MOST_LETTERS = 400
_MOST_NAMES = 240


class LongWord:
    """A sequence of letters, the names of kinds of a book, which can be as long as numbers reach."""

    def __init__(self, book, parts):
        if not isinstance(book, Book):
            raise InvalidBooks()
        if not is_list_of(parts, 0, _MOST_PARTS):
            raise InvalidParts(None)
        for position, part in enumerate(parts):
            if not _is_part(book, part):
                raise InvalidParts(position)
        self._book = book
        self._runs = tidy(parts)

    @classmethod
    def of(cls, book, *names):
        """The long word of these names, one behind the other."""
        if not isinstance(book, Book):
            raise InvalidBooks()
        for name in names:
            if name not in book:
                raise UnknownKind(name)
        parts = [(names[first:first + _MOST_NAMES], 1) for first in range(0, len(names), _MOST_NAMES)]
        return cls(book, parts)

    @property
    def book(self):
        """The book of the letters."""
        return self._book

    @property
    def length(self):
        """How many letters there are."""
        return run_length(self._runs)

    @property
    def takes(self):
        """How many loops all letters take."""
        return sum([self._book.taken(word) * number for word, number in self._runs])

    @property
    def makes(self):
        """How many loops all letters make."""
        return sum([self._book.loops_made(word) * number for word, number in self._runs])

    @property
    def yarn(self):
        """How much yarn all letters need."""
        return sum([self._book.yarn_of(word) * number for word, number in self._runs])

    def letter(self, place):
        """The name at a place."""
        if not is_count(place) or place >= self.length:
            raise InvalidNumber(place)
        found = letters_from(self._runs, place, 1)
        return found[0]

    def count(self, name):
        """How many letters are this name."""
        if name not in self._book:
            raise UnknownKind(name)
        return letter_count(self._runs, name)

    def letters(self, first, many):
        """The list of up to so many letters from a place on."""
        if not is_count(first):
            raise InvalidNumber(first)
        if not is_count_to(many, _MOST_LETTERS):
            raise InvalidNumber(many)
        return letters_from(self._runs, first, many)

    def first_difference(self, other):
        """The first place at which the letters differ, or at which only one word ends; None if they are equal."""
        _check_other(self._book, other)
        return unlike_place(self._runs, other._runs)

    def turned(self):
        """The word as it is worked from the wrong side."""
        parts = [(self._book.turned(word), number) for word, number in self._runs]
        return _of_runs(self._book, parts[::-1])

    def mirrored(self):
        """The word as it is seen in a mirror."""
        parts = [(self._book.mirrored(word), number) for word, number in self._runs]
        return _of_runs(self._book, parts[::-1])

    def __add__(self, other):
        _check_other(self._book, other)
        return _of_runs(self._book, self._runs + other._runs)

    def __eq__(self, other):
        return isinstance(other, LongWord) and self._book == other._book and _same_letters(self._runs, other._runs)

    def __repr__(self):
        return f"LongWord({self.length})"


def _is_part(book, part):
    return isinstance(part, tuple) and len(part) == 2 and book.is_word(part[0]) and is_count(part[1])


def _check_other(book, other):
    if not isinstance(other, LongWord) or other.book != book:
        raise InvalidWord(other)


def _of_runs(book, runs):
    """The long word of runs that come from long words, however many of them there are."""
    word = LongWord(book, ())
    word._runs = tidy(runs)
    return word


def _same_letters(runs, others):
    return unlike_place(runs, others) is None
