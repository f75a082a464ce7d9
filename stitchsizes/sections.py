"""Section texts: how the loops of a section are worked, whatever their number is."""

from math import gcd

from stitchsizes.checks import is_count_to
from stitchsizes.errors import InvalidBooks, InvalidNumber, InvalidText, InvalidWord, NotFitting
from stitchsizes.kinds import Book
from stitchsizes.longwords import LongWord
from stitchsizes.progressions import place_in

_MOST_TIMES = 12


class SectionText:
    """What can be asked of each section text. It is not created itself."""

    def __init__(self):
        raise NotImplementedError()

    @property
    def book(self):
        """The book of the words."""
        raise NotImplementedError()

    def fits(self, loops):
        """Whether any value is a count of loops that the text fits."""
        raise NotImplementedError()

    def word(self, loops):
        """The long word that the text makes of so many loops."""
        raise NotImplementedError()

    def made(self, loops):
        """How many loops are made of so many loops."""
        raise NotImplementedError()

    def counts(self):
        """The progression of the counts that fit."""
        raise NotImplementedError()

    def made_counts(self):
        """The tuple (made_first, made_step) of what is made of the counts that fit."""
        raise NotImplementedError()

    def slope(self):
        """How many loops are made of one more loop, as a tuple (top, bottom) in lowest terms."""
        raise NotImplementedError()


class Rested(SectionText):
    """A word, another one as often as there are loops for it, and a third one."""

    def __init__(self, book, before, repeated, after):
        _check_book(book)
        for word in (before, repeated, after):
            _check_word(book, word, 0)
        if len(repeated) > 0 and book.taken(repeated) == 0:
            raise InvalidText("repeated")
        self._book = book
        self._before = tuple(before)
        self._repeated = tuple(repeated)
        self._after = tuple(after)
        self._counts = (book.taken(before) + book.taken(after), book.taken(repeated))
        self._made_counts = (book.made(before) + book.made(after), book.made(repeated))

    @property
    def book(self):
        """The book of the words."""
        return self._book

    @property
    def before(self):
        """The word at the beginning."""
        return self._before

    @property
    def repeated(self):
        """The word that is repeated."""
        return self._repeated

    @property
    def after(self):
        """The word at the end."""
        return self._after

    def fits(self, loops):
        """Whether any value is a count of loops that the text fits."""
        return place_in(self.counts(), loops) is not None

    def word(self, loops):
        """The long word that the text makes of so many loops."""
        times = _place_of(self, loops)
        return LongWord(self._book, [(self._before, 1), (self._repeated, times), (self._after, 1)])

    def made(self, loops):
        """How many loops are made of so many loops."""
        return _made_of(self, loops)

    def counts(self):
        """The progression of the counts that fit."""
        return self._counts

    def made_counts(self):
        """The tuple (made_first, made_step) of what is made of the counts that fit."""
        return self._made_counts

    def slope(self):
        """How many loops are made of one more loop, as a tuple (top, bottom) in lowest terms."""
        return _slope_of(self)

    def __eq__(self, other):
        return isinstance(other, Rested) and self._book == other._book and _rested_words(self) == _rested_words(other)

    def __repr__(self):
        return f"Rested({self._before!r}, {self._repeated!r}, {self._after!r})"


class Kept(SectionText):
    """A word, a pattern of stitches that stays in line, and a word at the end."""

    def __init__(self, book, before, repeated, after, *, shift=0):
        _check_book(book)
        for word, least in ((before, 0), (repeated, 1), (after, 0)):
            _check_word(book, word, least)
        if not all([_is_plain(book.kind(name)) for name in repeated]):
            raise InvalidText("repeated")
        if not is_count_to(shift, len(repeated) - 1):
            raise InvalidNumber(shift)
        self._book = book
        self._before = tuple(before)
        self._repeated = tuple(repeated)
        self._after = tuple(after)
        self._shift = shift
        self._counts = (book.taken(before) + book.taken(after), 1)
        self._made_counts = (book.made(before) + book.made(after), 1)

    @property
    def book(self):
        """The book of the words."""
        return self._book

    @property
    def before(self):
        """The word at the beginning."""
        return self._before

    @property
    def repeated(self):
        """The word that is kept in line."""
        return self._repeated

    @property
    def after(self):
        """The word at the end."""
        return self._after

    @property
    def shift(self):
        """The place of the repeated word with which it begins."""
        return self._shift

    def fits(self, loops):
        """Whether any value is a count of loops that the text fits."""
        return place_in(self.counts(), loops) is not None

    def word(self, loops):
        """The long word that the text makes of so many loops."""
        many = _place_of(self, loops)
        shifted = self._repeated[self._shift:] + self._repeated[:self._shift]
        parts = [(shifted, many // len(shifted)), (shifted[:many % len(shifted)], 1)]
        return LongWord(self._book, [(self._before, 1), *parts, (self._after, 1)])

    def made(self, loops):
        """How many loops are made of so many loops."""
        return _made_of(self, loops)

    def counts(self):
        """The progression of the counts that fit."""
        return self._counts

    def made_counts(self):
        """The tuple (made_first, made_step) of what is made of the counts that fit."""
        return self._made_counts

    def slope(self):
        """How many loops are made of one more loop, as a tuple (top, bottom) in lowest terms."""
        return _slope_of(self)

    def __eq__(self, other):
        return isinstance(other, Kept) and self._book == other._book and _kept_parts(self) == _kept_parts(other)

    def __repr__(self):
        return f"Kept({self._before!r}, {self._repeated!r}, {self._after!r}, shift={self._shift!r})"


class Evenly(SectionText):
    """A word that is worked some times, with plain stitches between that are spread evenly."""

    def __init__(self, book, deed, times, plain):
        _check_book(book)
        _check_word(book, deed, 1)
        if not is_count_to(times, _MOST_TIMES) or times == 0:
            raise InvalidNumber(times)
        if not _is_plain(book.kind(plain)):
            raise InvalidText("plain")
        self._book = book
        self._deed = tuple(deed)
        self._times = times
        self._plain = plain
        self._counts = (times * book.taken(deed), 1)
        self._made_counts = (times * book.made(deed), 1)

    @property
    def book(self):
        """The book of the words."""
        return self._book

    @property
    def deed(self):
        """The word that is worked some times."""
        return self._deed

    @property
    def times(self):
        """How often the deed is worked."""
        return self._times

    @property
    def plain(self):
        """The name of the kind of the stitches between."""
        return self._plain

    def fits(self, loops):
        """Whether any value is a count of loops that the text fits."""
        return place_in(self.counts(), loops) is not None

    def word(self, loops):
        """The long word that the text makes of so many loops."""
        many = _place_of(self, loops)
        ends = [place * many // (self._times + 1) for place in range(self._times + 2)]
        plain = (self._plain,)
        parts = [(plain, ends[1])]
        for place in range(1, self._times + 1):
            parts.extend([(self._deed, 1), (plain, ends[place + 1] - ends[place])])
        return LongWord(self._book, parts)

    def made(self, loops):
        """How many loops are made of so many loops."""
        return _made_of(self, loops)

    def counts(self):
        """The progression of the counts that fit."""
        return self._counts

    def made_counts(self):
        """The tuple (made_first, made_step) of what is made of the counts that fit."""
        return self._made_counts

    def slope(self):
        """How many loops are made of one more loop, as a tuple (top, bottom) in lowest terms."""
        return _slope_of(self)

    def __eq__(self, other):
        return isinstance(other, Evenly) and self._book == other._book and _evenly_parts(self) == _evenly_parts(other)

    def __repr__(self):
        return f"Evenly({self._deed!r}, {self._times!r}, {self._plain!r})"


def _check_book(book):
    if not isinstance(book, Book):
        raise InvalidBooks()


def _check_word(book, word, least):
    if not book.is_word(word) or len(word) < least:
        raise InvalidWord(word)


def _is_plain(kind):
    """Whether a kind takes one loop and makes one."""
    return kind.takes == 1 and kind.makes == 1


def _place_of(text, loops):
    """Which of the counts that fit any value is; NotFitting if it is none."""
    place = place_in(text.counts(), loops)
    if place is None:
        raise NotFitting(0, loops)
    return place


def _made_of(text, loops):
    place = _place_of(text, loops)
    first, step = text.made_counts()
    return first + place * step


def _slope_of(text):
    bottom = text.counts()[1]
    if bottom == 0:
        return (1, 1)
    top = text.made_counts()[1]
    common = gcd(top, bottom)
    return (top // common, bottom // common)


def _rested_words(text):
    return (text.before, text.repeated, text.after)


def _kept_parts(text):
    return (text.before, text.repeated, text.after, text.shift)


def _evenly_parts(text):
    return (text.deed, text.times, text.plain)
