"""Which points lie between lines, however large the numbers of the lines are.

A condition is a tuple (a, b, c): a * x + b * y + c is to be at least 0. For each x the conditions with b > 0 tell
how far y can go down, those with b < 0 how far it can go up. Such a condition is kept as a LINE (a, c, divisor):
its reach at x, the amount (a * x + c) / divisor, is how far y can go, down below 0 or up above 0. So there is a real
y where the least reach down and the least reach up are together at least 0, and an integer y where this is so of
both rounded down.
"""

from math import gcd, lcm

from stitchsizes.quotients import quotient_sum


def tight(conditions):
    """The conditions that a cell keeps: made tight, sorted, and without those that tell nothing."""
    least = {}
    for condition in conditions:
        a, b, c = _made_tight(condition)
        if a == 0 and b == 0 and c < 0:
            return ((0, 0, -1),)
        if (a < 0 or b < 0 or c < 0) and ((a, b) not in least or c < least[(a, b)]):
            least[(a, b)] = c
    return tuple(sorted([(a, b, c) for (a, b), c in least.items()]))


def _made_tight(condition):
    a, b, c = condition
    common = gcd(a, b)
    if common == 0:
        return condition
    return (a // common, b // common, c // common)


def is_point_within(conditions, x, y):
    """Whether all conditions hold at x and y."""
    return all([a * x + b * y + c >= 0 for a, b, c in conditions])


def least_height(conditions, x):
    """The least count y for which all conditions hold at x, or None."""
    lowest = 0
    highest = None
    for a, b, c in conditions:
        value = a * x + c
        if b == 0 and value < 0:
            return None
        if b > 0:
            lowest = max(lowest, -(value // b))
        if b < 0:
            highest = value // -b if highest is None else min(highest, value // -b)
    if highest is not None and highest < lowest:
        return None
    return lowest


def has_point(conditions):
    """Whether there is a point at which all conditions hold."""
    return _first_stretch(conditions) is not None


def least_point(conditions):
    """The least point at which all conditions hold, or None."""
    stretch = _first_stretch(conditions)
    if stretch is None:
        return None
    down, up, first, last = stretch
    start = first
    # The number of points up to some x only grows, so the first x that has any is found by halving.
    while first < last:
        middle = (first + last) // 2
        if _points_between(down, up, start, middle) > 0:
            last = middle
        else:
            first = middle + 1
    return (first, least_height(conditions, first))


def _first_stretch(conditions):
    """The first stretch of x that has points, as a tuple (line down, line up, first, last), or None.

    In a stretch the same line has the least reach down, and the same one the least reach up.
    """
    downs, ups, sides = lines_of(conditions)
    span = real_span(downs, ups, sides)
    if span is None:
        return None
    first, end = span
    if not ups:
        # y can go up without an end, so a stretch of one x will do, between any lines.
        return (downs[0], downs[0], first, first)
    while end is None or first <= end:
        down = nearest_line(downs, first)
        up = nearest_line(ups, first)
        last = least_of([end, end_of_line(down, downs), end_of_line(up, ups)])
        if last is None:
            last = _sure_end(down, up, first)
            end = last
        if height_at(down, up, first) >= 0:
            return (down, up, first, first)
        if _points_between(down, up, first, last) > 0:
            return (down, up, first, last)
        first = last + 1
    return None


def lines_of(conditions):
    """The lines that tell how far y can go down, those that tell how far it can go up, and the tuples (a, c) of the
    conditions that tell nothing of y."""
    downs = [(0, 0, 1)] + [(a, c, b) for a, b, c in conditions if b > 0]
    ups = [(a, c, -b) for a, b, c in conditions if b < 0]
    return (downs, ups, [(a, c) for a, b, c in conditions if b == 0])


def real_span(downs, ups, sides):
    """The counts x, from first to last, at which there is a real y, as a tuple, or None; last is None if there
    is no end."""
    bounds = [*sides]
    for down in downs:
        for up in ups:
            bounds.append(gap_between(down, up))
    first = 0
    last = None
    for a, c in bounds:
        if a == 0 and c < 0:
            return None
        if a > 0:
            first = max(first, -(c // a))
        if a < 0:
            last = least_of([last, c // -a])
    if last is not None and last < first:
        return None
    return (first, last)


def gap_between(down, up):
    """The tuple (a, c) for which a * x + c is the sum of both reaches at x, times both divisors."""
    return (down[0] * up[2] + up[0] * down[2], down[1] * up[2] + up[1] * down[2])


def least_of(limits):
    """The least of several limits, of which None is none."""
    numbers = [limit for limit in limits if limit is not None]
    return min(numbers) if numbers else None


def nearest_line(lines, x):
    """The line with the least reach at x; of several the one that stays the least from there on."""
    nearest = lines[0]
    for line in lines[1:]:
        a, c, divisor = line
        less = (a * x + c) * nearest[2] - (nearest[0] * x + nearest[1]) * divisor
        if less < 0 or less == 0 and a * nearest[2] < nearest[0] * divisor:
            nearest = line
    return nearest


def end_of_line(nearest, lines):
    """The last x to which the line with the least reach keeps it, or None if it always does."""
    ends = []
    for a, c, divisor in lines:
        nearing = nearest[0] * divisor - a * nearest[2]
        if nearing > 0:
            ends.append((c * nearest[2] - nearest[1] * divisor) // nearing)
    return least_of(ends)


def _sure_end(down, up, first):
    """An x up to which there is a point from first on, if there is one at all, where neither line ever ends."""
    a, c = gap_between(down, up)
    if a == 0:
        return first + lcm(down[2], up[2]) - 1
    # Where both reaches are together at least 1, there is an integer between.
    return max(first, -((c - down[2] * up[2]) // a))


def height_at(down, up, x):
    """How many steps there are between the least y and the greatest one at x; below 0 if there is no y."""
    return (down[0] * x + down[1]) // down[2] + (up[0] * x + up[1]) // up[2]


def _points_between(down, up, first, last):
    """How many points lie between two lines from x = first to last, if there is a real y everywhere."""
    many = last - first + 1
    below = quotient_sum(many, down[2], down[0], down[0] * first + down[1])
    above = quotient_sum(many, up[2], up[0], up[0] * first + up[1])
    return below + above + many
