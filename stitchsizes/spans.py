"""Sets of counts that are kept as spans.

Spans have a modulus and are a tuple of tuples (start, mask), ascending, the first one with the start 0. A span goes
from its start to the next one, the last one has no end. In it those counts are members whose residue modulo the
modulus is the place of a bit that is 1 in the mask. So the numbers can be far too large for trying counts.
"""

from math import lcm


def spans_of(stretches):
    """The modulus and the spans of some stretches (modulus, residue, first, last)."""
    filled = [stretch for stretch in stretches if stretch[3] is None or stretch[2] <= stretch[3]]
    modulus = 1
    for stretch in filled:
        modulus = lcm(modulus, stretch[0])
    masks = {}
    for step, residue, first, last in filled:
        end = None if last is None else last + 1
        masks[(first, end)] = masks.get((first, end), 0) | _repeated_bits(1 << residue, step, modulus)
    starts = [first for first, _ in masks] + [end for _, end in masks if end is not None]
    spans = []
    for start in sorted([0] + starts):
        mask = 0
        for (first, end), part in masks.items():
            if first <= start and (end is None or start < end):
                mask = mask | part
        if not spans or spans[-1][1] != mask:
            spans.append((start, mask))
    return (modulus, tuple(spans))


def joined(one, other, how):
    """The modulus and the spans of two sets (modulus, spans) together: "or", "and", "minus", or "unlike"."""
    modulus = lcm(one[0], other[0])
    mine = _widened(one, modulus)
    theirs = _widened(other, modulus)
    spans = []
    at = 0
    where = 0
    start = 0
    while start is not None:
        spans.append((start, _joined_mask(mine[at][1], theirs[where][1], how)))
        next_mine = _start_behind(mine, at)
        next_theirs = _start_behind(theirs, where)
        start = _lesser(next_mine, next_theirs)
        if next_mine is not None and next_mine == start:
            at = at + 1
        if next_theirs is not None and next_theirs == start:
            where = where + 1
    return (modulus, tuple(spans))


def has_member(modulus, spans, number):
    """Whether a count is a member."""
    masks = [mask for start, mask in spans if start <= number]
    return (masks[-1] >> (number % modulus)) & 1 == 1


def least_from(modulus, spans, number):
    """The least member that is not below a count, or None."""
    for at, (start, mask) in enumerate(spans):
        end = _start_behind(spans, at)
        first = max(start, number)
        bits = _bits_between(modulus, mask, first, end)
        if bits != 0:
            # The lowest bit that is 1 is the only one that a number and its negative have in common below the signs.
            return first + (bits & -bits).bit_length() - 1
    return None


def members_between(modulus, spans, first, end):
    """How many members there are from a count up to, not including, another one."""
    total = 0
    for at, (start, mask) in enumerate(spans):
        low = max(start, first)
        high = _lesser(_start_behind(spans, at), end)
        if low < high:
            whole = (high - low) // modulus
            rest = _bits_between(modulus, mask, low, high - whole * modulus)
            total = total + whole * _ones_of(mask) + _ones_of(rest)
    return total


def stretches_of(modulus, spans):
    """A list of stretches that have the members, each of them just once."""
    found = []
    for at, (start, mask) in enumerate(spans):
        end = _start_behind(spans, at)
        step = _period_of(modulus, mask)
        bits = _bits_between(step, mask & ((1 << step) - 1), start, end)
        for place in range(step):
            if (bits >> place) & 1 == 1:
                first = start + place
                last = None if end is None else end - 1 - (end - 1 - first) % step
                found.append((step, first % step, first, last))
    return found


def _repeated_bits(bits, length, whole):
    """So many bits, written again and again up to a whole length."""
    return bits * (((1 << whole) - 1) // ((1 << length) - 1))


def _widened(kept, modulus):
    """The spans of a set (modulus, spans), told by a multiple of its modulus."""
    return [(start, _repeated_bits(mask, kept[0], modulus)) for start, mask in kept[1]]


def _joined_mask(mine, theirs, how):
    if how == "or":
        return mine | theirs
    if how == "and":
        return mine & theirs
    if how == "minus":
        return mine ^ (mine & theirs)
    return mine ^ theirs


def _start_behind(spans, at):
    """The start of the next span, or None."""
    return spans[at + 1][0] if at + 1 < len(spans) else None


def _lesser(one, other):
    """The lesser one of two numbers, of which None is none."""
    if one is None or other is None:
        return other if one is None else one
    return min(one, other)


def _bits_between(modulus, mask, first, end):
    """The bits that tell which of the counts from first on are members: modulus of them, fewer if the end is nearer."""
    shift = first % modulus
    turned = (mask >> shift) | (mask << (modulus - shift))
    many = modulus if end is None else min(modulus, max(0, end - first))
    return turned & ((1 << many) - 1)


def _ones_of(bits):
    """How many bits are 1."""
    digits = f"{bits:b}"
    return digits.count("1")


def _period_of(modulus, mask):
    """The least divisor of the modulus after which the bits of the mask come again."""
    for step in range(1, modulus):
        if modulus % step == 0 and _repeated_bits(mask & ((1 << step) - 1), step, modulus) == mask:
            return step
    return modulus
