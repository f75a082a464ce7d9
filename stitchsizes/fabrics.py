"""Fabrics: a cast-on, and rows that are worked one after the other on just the loops that there are."""

from stitchsizes.checks import is_count, is_count_to, is_list_of
from stitchsizes.errors import InvalidBooks, InvalidNumber, InvalidRows, NoRow
from stitchsizes.kinds import Book
from stitchsizes.longwords import LongWord

_MOST_ROWS = 400


class Fabric:
    """Rows, long words of one book, on a number of loops that are cast on."""

    def __init__(self, book, cast_on, rows=()):
        if not isinstance(book, Book):
            raise InvalidBooks()
        if not is_count(cast_on):
            raise InvalidNumber(cast_on)
        if not is_list_of(rows, 0, _MOST_ROWS):
            raise InvalidRows(None)
        loops_ahead = [cast_on]
        for position, row in enumerate(rows):
            if not _is_row(book, loops_ahead[position], row):
                raise InvalidRows(position)
            loops_ahead.append(row.makes)
        self._book = book
        self._cast_on = cast_on
        self._rows = tuple(rows)
        self._loops_ahead = tuple(loops_ahead)

    @property
    def book(self):
        """The book of the rows."""
        return self._book

    @property
    def cast_on(self):
        """The number of loops that are cast on."""
        return self._cast_on

    @property
    def loops(self):
        """The number of loops at the end."""
        return self._loops_ahead[-1]

    @loops.setter
    def loops(self, value):
        # Errors assign attributes of this name, so the property needs a setter; a fabric does not change.
        raise AttributeError("loops")

    def row(self, number):
        """The long word of a row."""
        if not is_count(number) or number >= len(self._rows):
            raise NoRow(number)
        return self._rows[number]

    def all_rows(self):
        """The list of the rows."""
        return list(self._rows)

    def loops_at(self, number):
        """The loops ahead of a row, or at the end for the number of rows."""
        if not is_count_to(number, len(self._rows)):
            raise NoRow(number)
        return self._loops_ahead[number]

    def with_row(self, word):
        """The fabric with one more row."""
        if len(self._rows) == _MOST_ROWS or not _is_row(self._book, self.loops, word):
            raise InvalidRows(len(self._rows))
        return Fabric(self._book, self._cast_on, [*self._rows, word])

    def from_behind(self):
        """The fabric as it is seen from behind."""
        return Fabric(self._book, self._cast_on, [row.turned() for row in self._rows])

    def in_mirror(self):
        """The fabric as it is seen in a mirror."""
        return Fabric(self._book, self._cast_on, [row.mirrored() for row in self._rows])

    def first_difference(self, other):
        """Where two fabrics first differ: at the cast-on, at a place of a row, or as only one has more rows."""
        if not isinstance(other, Fabric) or other.book != self._book:
            raise InvalidRows(None)
        if self._cast_on != other.cast_on:
            return ("cast on",)
        for number, (row, twin) in enumerate(zip(self._rows, other.all_rows())):
            place = row.first_difference(twin)
            if place is not None:
                return ("row", number, place)
        if len(self) != len(other):
            return ("rows", min(len(self), len(other)))
        return None

    def __len__(self):
        return len(self._rows)

    def __eq__(self, other):
        if not isinstance(other, Fabric) or self._book != other._book or self._cast_on != other._cast_on:
            return False
        return self._rows == other._rows


def _is_row(book, loops, row):
    """Whether any value is a long word of the book that takes just so many loops."""
    return isinstance(row, LongWord) and row.book == book and row.takes == loops
