"""Pieces: stretches of sizes on which the outcome of a pattern is told by the same lines."""

from stitchsizes.checks import is_count
from stitchsizes.errors import InvalidNumber, InvalidPattern
from stitchsizes.patterns import Pattern
from stitchsizes.sizes import Sizes
from stitchsizes.stages import outcome_told, prepared, worked
from stitchsizes.stretch import divided
from stitchsizes.weights import check_weight, product_of, step_weight
from stitchsizes.working import outcome_at


class Piece:
    """A stretch of sizes with the outcome of a pattern on it. Pieces are made by pieces."""

    def __init__(self, stretch, outcome):
        self._modulus, self._residue, self._first, self._last = stretch.sizes()
        self._start = stretch.start
        self._outcome = outcome

    @property
    def modulus(self):
        """By how much each next size is greater."""
        return self._modulus

    @property
    def residue(self):
        """What is left of the sizes modulo the modulus."""
        return self._residue

    @property
    def first(self):
        """The count with which the stretch begins."""
        return self._first

    @property
    def last(self):
        """The count with which the stretch ends, or None."""
        return self._last

    @property
    def start(self):
        """The least size."""
        return self._start

    @property
    def outcome(self):
        """The outcome, with lines for its numbers."""
        return self._outcome

    @outcome.setter
    def outcome(self, value):
        # Errors assign attributes of this name, so the property needs a setter; a piece does not change.
        raise AttributeError("outcome")

    def outcome_at(self, size):
        """The outcome at one of the sizes."""
        if not is_count(size) or size < self._first or size % self._modulus != self._residue:
            raise InvalidNumber(size)
        if self._last is not None and size > self._last:
            raise InvalidNumber(size)
        return outcome_told(self._outcome, (size - self._start) // self._modulus)

    def __eq__(self, other):
        return isinstance(other, Piece) and _piece_parts(self) == _piece_parts(other)


def pieces(pattern):
    """The list of the pieces of a pattern; each size is in just one of them."""
    _check(pattern)
    return [Piece(stretch, outcome) for stretch, outcome in divided(_outcome_on, _subject(pattern, True))]


def sizes_through(pattern):
    """The sizes at which a pattern goes through."""
    _check(pattern)
    return _sizes_with(pattern, ("through",))


def sizes_failing(pattern):
    """The sizes at which a pattern fails."""
    _check(pattern)
    return _sizes_with(pattern, ("fails",))


def sizes_endless(pattern):
    """The sizes at which a pattern is endless."""
    _check(pattern)
    return _sizes_with(pattern, ("endless",))


def first_trouble(pattern):
    """The least size at which a pattern does not go through, with the outcome there, or None."""
    _check(pattern)
    size = _sizes_with(pattern, ("fails", "endless")).least()
    return None if size is None else (size, outcome_at(pattern, size))


def weight_of(pattern):
    """The weight of a pattern."""
    if not isinstance(pattern, Pattern):
        raise InvalidPattern(pattern)
    return product_of([step_weight(step) for step in pattern.steps])


def _piece_parts(piece):
    return (piece.modulus, piece.first, piece.last, piece.outcome)


def _check(pattern):
    check_weight(weight_of(pattern))


def _subject(pattern, fully):
    return (prepared(pattern.steps), pattern.cast_on, fully)


def _outcome_on(subject, stretch):
    """The outcome of a pattern on a stretch."""
    ready, cast_on, fully = subject
    return worked(ready, cast_on, stretch, fully)[1]


def _sizes_with(pattern, words):
    """The sizes at which the outcome has one of some words."""
    found = divided(_outcome_on, _subject(pattern, False))
    stretches = [stretch.span() for stretch, outcome in found if outcome[0] in words]
    return Sizes(*stretches)
