"""Square functions: tuples (a, b, c) of integers that stand for c + b * k + a * k * (k - 1) / 2 at each count k.

So c is the value at 0, b the first step, and a is by how much each next step is greater.
"""


def square_through(values):
    """The function with these values at 0, 1 and 2; of fewer values the simplest one."""
    if len(values) == 1:
        return (0, 0, values[0])
    if len(values) == 2:
        return (0, values[1] - values[0], values[0])
    return (values[2] - 2 * values[1] + values[0], values[1] - values[0], values[0])


def square_at(square, k):
    """The value at an integer."""
    a, b, c = square
    return c + b * k + a * (k * (k - 1) // 2)


def first_above(square, last):
    """The least k up to last, without an end if it is None, at which the value is above 0; None if there is none."""
    a, b, c = square
    if c > 0:
        return 0
    if a < 0:
        # It rises as far as the steps are above 0, and falls from there on.
        top = max(0, -(b // a))
        return _first_risen(square, top if last is None else min(top, last))
    if last is None:
        if a == 0 and b <= 0:
            return None
        last = _far_above(square)
    return _first_risen(square, last)


def is_above_in_the_end(square):
    """Whether the value is above 0 from some k on."""
    a, b, c = square
    return a > 0 or a == 0 and (b > 0 or b == 0 and c > 0)


def last_not_above(square, last):
    """The greatest k up to last at which the value is not above 0, or None if there is none.

    If last is None, the value has to be above 0 from some k on.
    """
    if last is None:
        last = _far_above(square)
    # Read from the end, and turned over: the first place at which 1 less the value is above 0.
    turned = square_through([1 - square_at(square, last - place) for place in range(3)])
    place = first_above(turned, last)
    return None if place is None else last - place


def _far_above(square):
    """A k from which on a function that is above 0 in the end is always above 0."""
    k = 1
    while square_at(square, k) <= 0 or square[1] + square[0] * k < 0:
        k = 2 * k
    return k


def _first_risen(square, high):
    """The least k up to high at which the value is above 0, if it stays so up to high; or None."""
    if square_at(square, high) <= 0:
        return None
    low = 0
    while low < high:
        middle = (low + high) // 2
        if square_at(square, middle) > 0:
            high = middle
        else:
            low = middle + 1
    return low
