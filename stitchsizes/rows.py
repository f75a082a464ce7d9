"""Row texts: what is worked over all sections of the needle, and how sections are cut and merged."""

from stitchsizes.checks import is_count
from stitchsizes.errors import (
    InvalidCounts, InvalidEdge, InvalidNumber, InvalidSection, InvalidTexts, InvalidWay, NotFitting, TooMany,
)
from stitchsizes.longwords import LongWord
from stitchsizes.sections import SectionText

_MOST_SECTIONS = 6


class RowText:
    """A section text for each section, section 0 first."""

    def __init__(self, *texts):
        if not 1 <= len(texts) <= _MOST_SECTIONS:
            raise InvalidTexts(None)
        for position, text in enumerate(texts):
            if not isinstance(text, SectionText) or text.book != texts[0].book:
                raise InvalidTexts(position)
        self._texts = tuple(texts)

    @property
    def book(self):
        """The book of the words."""
        return self._texts[0].book

    @property
    def texts(self):
        """The section texts."""
        return self._texts

    def fits(self, counts):
        """Whether any value is a tuple of counts that the section texts fit."""
        return _are_counts(counts, len(self)) and self._unfit_section(counts) is None

    def word(self, counts):
        """The long word that is made of so many loops in the sections."""
        self._check_counts(counts)
        self._check_fitting(counts)
        word = LongWord(self.book, ())
        for text, loops in zip(self._texts, counts):
            word = word + text.word(loops)
        return word

    def made(self, counts):
        """The tuple of the loops that the sections have then."""
        self._check_counts(counts)
        self._check_fitting(counts)
        return tuple([text.made(loops) for text, loops in zip(self._texts, counts)])

    def worked(self, counts, side):
        """The long word as it is worked on a side."""
        self._check_counts(counts)
        if not isinstance(side, str) or side not in ("right", "wrong"):
            raise InvalidWay(side)
        word = self.word(counts)
        return word.turned() if side == "wrong" else word

    def _check_counts(self, counts):
        if not _are_counts(counts, len(self)):
            raise InvalidCounts(counts)

    def _check_fitting(self, counts):
        section = self._unfit_section(counts)
        if section is not None:
            raise NotFitting(section, counts[section])

    def _unfit_section(self, counts):
        """The first section whose text does not fit, or None."""
        for section, text in enumerate(self._texts):
            if not text.fits(counts[section]):
                return section
        return None

    def __len__(self):
        return len(self._texts)

    def __eq__(self, other):
        return isinstance(other, RowText) and self._texts == other._texts

    def __repr__(self):
        words = [repr(text) for text in self._texts]
        return f"RowText({', '.join(words)})"


def cut_section(counts, section, edge, loops):
    """The counts behind a cut: loops at an edge of a section become a section of their own."""
    _check_sections(counts)
    if not is_count(section) or section >= len(counts):
        raise InvalidSection(section)
    if not isinstance(edge, str) or edge not in ("right", "left"):
        raise InvalidEdge(edge)
    if not is_count(loops):
        raise InvalidNumber(loops)
    rest = counts[section] - loops
    if rest < 0:
        raise NotFitting(section, counts[section])
    if len(counts) == _MOST_SECTIONS:
        raise TooMany("sections", _MOST_SECTIONS)
    both = (loops, rest) if edge == "right" else (rest, loops)
    return counts[:section] + both + counts[section + 1:]


def merge_section(counts, section):
    """The counts behind a merge: a section and the next one, to its left, become one."""
    _check_sections(counts)
    if not is_count(section) or section >= len(counts) - 1:
        raise InvalidSection(section)
    return counts[:section] + (counts[section] + counts[section + 1],) + counts[section + 2:]


def _are_counts(value, many):
    """Whether any value is a tuple of so many counts."""
    return isinstance(value, tuple) and len(value) == many and all([is_count(loops) for loops in value])


def _check_sections(counts):
    if not isinstance(counts, tuple) or not 1 <= len(counts) <= _MOST_SECTIONS:
        raise InvalidCounts(counts)
    if not all([is_count(loops) for loops in counts]):
        raise InvalidCounts(counts)
