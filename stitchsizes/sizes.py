"""Sets of sizes, which are given by stretches and can be infinite."""

from stitchsizes.checks import is_count, is_integer
from stitchsizes.errors import InvalidNumber, InvalidStretches
from stitchsizes.spans import has_member, joined, least_from, members_between, spans_of, stretches_of


class Sizes:
    """The counts of some stretches (modulus, residue, first, last)."""

    def __init__(self, *stretches):
        for position, stretch in enumerate(stretches):
            if not _is_stretch(stretch):
                raise InvalidStretches(position)
        self._modulus, self._spans = spans_of(stretches)

    @classmethod
    def whole(cls):
        """All counts."""
        return cls((1, 0, 0, None))

    @classmethod
    def of(cls, *sizes):
        """Just these counts."""
        for size in sizes:
            if not is_count(size):
                raise InvalidNumber(size)
        stretches = [(1, 0, size, size) for size in sizes]
        return cls(*stretches)

    @property
    def is_finite(self):
        """Whether there is no element from some count on."""
        return self._spans[-1][1] == 0

    def least(self):
        """The least element, or None."""
        return least_from(self._modulus, self._spans, 0)

    def next_size(self, size):
        """The least element that is greater than a count, or None."""
        if not is_count(size):
            raise InvalidNumber(size)
        return least_from(self._modulus, self._spans, size + 1)

    def count(self, first, last):
        """How many elements lie between two counts, both included."""
        for number in (first, last):
            if not is_count(number):
                raise InvalidNumber(number)
        return members_between(self._modulus, self._spans, first, last + 1)

    def without(self):
        """All counts that are not elements."""
        return _sizes_of(joined(spans_of([(1, 0, 0, None)]), _kept_by(self), "minus"))

    def stretches(self):
        """A list of stretches that have the elements, none of them in two stretches, and no others."""
        return stretches_of(self._modulus, self._spans)

    def __contains__(self, x):
        return is_count(x) and has_member(self._modulus, self._spans, x)

    def __or__(self, other):
        return _sizes_of(joined(_kept_by(self), _kept_by(other), "or"))

    def __and__(self, other):
        return _sizes_of(joined(_kept_by(self), _kept_by(other), "and"))

    def __sub__(self, other):
        return _sizes_of(joined(_kept_by(self), _kept_by(other), "minus"))

    def __bool__(self):
        return not _has_none(_kept_by(self))

    def __eq__(self, other):
        return isinstance(other, Sizes) and _has_none(joined(_kept_by(self), _kept_by(other), "unlike"))


def _is_stretch(value):
    """Whether any value is a tuple (modulus, residue, first, last) of a stretch."""
    if not isinstance(value, tuple) or len(value) != 4:
        return False
    modulus, residue, first, last = value
    if not is_integer(modulus) or modulus < 1 or not is_count(residue) or residue >= modulus:
        return False
    return is_count(first) and (last is None or is_count(last))


def _kept_by(value):
    """The modulus and the spans of a set of sizes; InvalidStretches for any other value."""
    if not isinstance(value, Sizes):
        raise InvalidStretches(None)
    return (value._modulus, value._spans)


def _has_none(kept):
    modulus, spans = kept
    return least_from(modulus, spans, 0) is None


def _sizes_of(kept):
    """The set of sizes with a modulus and spans."""
    sizes = Sizes()
    sizes._modulus = kept[0]
    sizes._spans = kept[1]
    return sizes
