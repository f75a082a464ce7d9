"""Progressions: tuples (first, step) of counts that stand for first, first + step, first + 2 * step and so on.

A progression with the step 0 stands for its first count alone.
"""

from math import gcd

from stitchsizes.checks import is_count


def place_in(progression, value):
    """The k for which any value is the k-th count of a progression, or None."""
    first, step = progression
    if not is_count(value) or value < first:
        return None
    if step == 0:
        return 0 if value == first else None
    if (value - first) % step != 0:
        return None
    return (value - first) // step


def places_within(line, progression):
    """The progression of the k for which first + k * step of a line is in a progression, or None if there is no k.

    The line has a count for each k, so with the step 0 it has the same count again and again.
    """
    start, stride = line
    first, step = progression
    if stride == 0:
        return None if place_in(progression, start) is None else (0, 1)
    if step == 0:
        place = place_in(line, first)
        return None if place is None else (place, 0)
    common = gcd(stride, step)
    if (first - start) % common != 0:
        return None
    period = step // common
    residue = (first - start) // common * _inverse(stride // common, period) % period
    # The least k at which the line is not below the first count, and from there the next one with the residue.
    least = max(0, -((start - first) // stride))
    return (least + (residue - least) % period, period)


def common_part(one, other):
    """The progression of the counts that are in two progressions, or None if there is none."""
    places = places_within(one, other)
    if places is None:
        return None
    return (one[0] + places[0] * one[1], places[1] * one[1])


def _inverse(number, modulus):
    """The factor by which a number that has no common divisor with the modulus becomes 1."""
    factor, following = 1, 0
    rest, divisor = number, modulus
    while divisor != 0:
        quotient = rest // divisor
        rest, divisor = divisor, rest - quotient * divisor
        factor, following = following, factor - quotient * following
    return factor % modulus
