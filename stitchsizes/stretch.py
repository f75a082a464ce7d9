"""Stretches of sizes on which work is done once for all sizes."""

from math import gcd

from stitchsizes.lines import scaled


class Uneven(Exception):
    """A rounded quotient is not linear on a stretch, but it is on each of so many parts of it."""

    def __init__(self, factor):
        self.factor = factor


class Stretch:
    """The sizes start + modulus * k for the counts k up to and including last, or for all k if last is None.

    Numbers are lines over k. What is asked of a line has one answer on the whole stretch: behind the last k that has
    the same answer as 0 the stretch is cut off. So who works on a stretch learns in the end for how many sizes the work
    is the same; what was cut off is worked by itself.
    """

    def __init__(self, start, modulus, last):
        self._start = start
        self._modulus = modulus
        self._last = last

    @property
    def start(self):
        """The least size."""
        return self._start

    @property
    def modulus(self):
        """By how much each next size is greater."""
        return self._modulus

    @property
    def last(self):
        """The greatest k, or None."""
        return self._last

    def of_size(self, p, q):
        """The line of p + q * n, n being the size."""
        return (p + q * self._start, q * self._modulus)

    def reaches(self, line):
        """Whether a line is at least 0 on the stretch."""
        x, y = line
        if x >= 0:
            if y < 0:
                self._end_at(x // -y)
            return True
        if y > 0:
            self._end_at((-1 - x) // y)
        return False

    def is_zero(self, line):
        """Whether a line is 0 on the stretch."""
        return self.reaches(line) and self.reaches(scaled(line, -1))

    def remainder(self, line, divisor):
        """What is left of a line divided by a number; Uneven if it is not the same on the whole stretch."""
        x, y = line
        if self._last != 0 and y % divisor != 0:
            raise Uneven(divisor // gcd(y, divisor))
        return x % divisor

    def quotient(self, line, divisor):
        """The line of the rounded quotient; Uneven if it is none."""
        self.remainder(line, divisor)
        return (line[0] // divisor, 0 if self._last == 0 else line[1] // divisor)

    def divide(self, factor):
        """The stretches, as tuples (start, modulus, last), into which it is divided by what is left of k."""
        found = []
        for place in range(factor if self._last is None else min(factor, self._last + 1)):
            last = None if self._last is None else (self._last - place) // factor
            found.append((self._start + place * self._modulus, self._modulus * factor, last))
        return found

    def rest_of(self, last):
        """The list of what was cut off, if the last k was this one at first."""
        if self._last is None or last is not None and last <= self._last:
            return []
        begin = self._last + 1
        return [(self._start + begin * self._modulus, self._modulus, None if last is None else last - begin)]

    def sizes(self):
        """The tuple (modulus, residue, first, last) of its sizes."""
        last = None if self._last is None else self._start + self._last * self._modulus
        return (self._modulus, self._start % self._modulus, self._start, last)

    def span(self):
        """A tuple (modulus, residue, first, last) with the same sizes, whose ends are those of whole turns of the
        modulus, so that stretches side by side have the same ends."""
        modulus, residue, first, last = self.sizes()
        return (modulus, residue, first - residue, None if last is None else last - residue + modulus - 1)

    def _end_at(self, k):
        if self._last is None or k < self._last:
            self._last = k


def divided(work, subject):
    """All sizes as a list of tuples (stretch, what the work has told of the subject on it).

    The work is a function of the subject and a stretch. It may make the stretch narrower, or raise Uneven.
    """
    found = []
    waiting = [(0, 1, None)]
    while waiting:
        start, modulus, last = waiting.pop()
        stretch = Stretch(start, modulus, last)
        told, factor = _tried(work, subject, stretch)
        waiting.extend(stretch.rest_of(last))
        if factor is None:
            found.append((stretch, told))
        else:
            waiting.extend(stretch.divide(factor))
    return found


def _tried(work, subject, stretch):
    """What the work tells, and None; or None, and into how many parts the stretch has to be divided."""
    try:
        return (work(subject, stretch), None)
    except Uneven as uneven:
        return (None, uneven.factor)
