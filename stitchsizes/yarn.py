"""The yarn of two patterns compared at all sizes."""

from stitchsizes.errors import InvalidPattern
from stitchsizes.patterns import Pattern
from stitchsizes.pieces import weight_of
from stitchsizes.squares import first_above, is_above_in_the_end, last_not_above, square_through
from stitchsizes.stages import prepared, worked
from stitchsizes.stretch import divided
from stitchsizes.weights import check_weight
from stitchsizes.yarnsums import make_even, yarn_of_stages, yarn_tables


def least_more(one, other):
    """The least size at which both patterns go through and the first one needs more yarn, or None."""
    found = []
    for stretch, more in _compared(one, other):
        k = first_above(more, stretch.last)
        if k is not None:
            found.append(stretch.start + stretch.modulus * k)
    return min(found) if found else None


def always_more_from(one, other):
    """The least count from which on the first pattern needs more yarn wherever both go through, or None."""
    least = 0
    ends = True
    for stretch, more in _compared(one, other):
        if stretch.last is None:
            ends = False
            if not is_above_in_the_end(more):
                return None
        k = last_not_above(more, stretch.last)
        if k is not None:
            least = max(least, stretch.start + stretch.modulus * k + 1)
    return None if ends else least


def _compared(one, other):
    """Where both patterns go through: a list of stretches, with how much more yarn the first one needs there."""
    for pattern in (one, other):
        if not isinstance(pattern, Pattern):
            raise InvalidPattern(pattern)
    check_weight(weight_of(one) * weight_of(other))
    told = divided(_more_on, [(prepared(pattern.steps), pattern.cast_on, yarn_tables(pattern.steps))
                              for pattern in (one, other)])
    return [(stretch, more) for stretch, more in told if more is not None]


def _more_on(subject, stretch):
    """How much more yarn the first pattern needs on a stretch, a square function; None if one does not go through."""
    both = []
    for ready, cast_on, tables in subject:
        stages, outcome, _ = worked(ready, cast_on, stretch, False)
        if outcome[0] != "through":
            return None
        both.append((stages, tables))
    for stages, tables in both:
        make_even(stages, tables, stretch)
    many = 3 if stretch.last is None else min(3, stretch.last + 1)
    (stages, tables), (others, twins) = both
    return square_through([yarn_of_stages(stages, tables, k) - yarn_of_stages(others, twins, k) for k in range(many)])
