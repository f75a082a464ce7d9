"""Shadows: the x of the points at which conditions hold, as stretches (modulus, residue, first, last).

The conditions and lines are those of the plane.
"""

from math import gcd, lcm

from stitchsizes.plane import end_of_line, gap_between, height_at, least_of, lines_of, nearest_line, real_span


def shadow(conditions):
    """The list of the stretches of all x that have a point; none of them is in two stretches."""
    downs, ups, sides = lines_of(conditions)
    span = real_span(downs, ups, sides)
    if span is None:
        return []
    first, end = span
    if not ups:
        return [(1, 0, first, end)]
    found = []
    while first is not None and (end is None or first <= end):
        down = nearest_line(downs, first)
        up = nearest_line(ups, first)
        last = least_of([end, end_of_line(down, downs), end_of_line(up, ups)])
        found.extend(_between(down, up, first, last))
        first = None if last is None else last + 1
    return found


def _between(down, up, first, last):
    """The stretches of the x from first to last at which there is a y between two lines; there is a real one at all."""
    a, c = gap_between(down, up)
    # With so great a gap, rounding takes away less than is there.
    over = c - (down[2] - 1) * (up[2] - 1)
    if a == 0:
        return [(1, 0, first, last)] if over >= 0 else _one_by_one(down, up, first, last)
    if a > 0:
        wide = max(first, -(over // a))
        narrow = _one_by_one(down, up, first, least_of([last, wide - 1]))
        return narrow + ([(1, 0, wide, last)] if last is None or wide <= last else [])
    # The lines draw near each other, so the stretch has an end.
    narrow = max(first, min(last, over // -a) + 1)
    return ([(1, 0, first, narrow - 1)] if first < narrow else []) + _one_by_one(down, up, narrow, last)


def _one_by_one(down, up, first, last):
    """As _between, told for each residue by itself. With each turn the height changes by the same number: not at all if
    the lines stay apart, and otherwise the x where the gap is so small are fewer than a turn."""
    turn = lcm(down[2] // gcd(down[0], down[2]), up[2] // gcd(up[0], up[2]))
    found = []
    for x in range(first, first + turn if last is None else min(first + turn, last + 1)):
        if height_at(down, up, x) >= 0:
            found.append((turn, x % turn, x, None if last is None else last - (last - x) % turn))
    return found
