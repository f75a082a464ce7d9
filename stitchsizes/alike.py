"""Two patterns beside each other, at all sizes."""

from math import lcm

from stitchsizes.checks import is_count
from stitchsizes.errors import InvalidNumber, InvalidPattern, TooMany
from stitchsizes.lines import line_gap, total_of
from stitchsizes.overlaps import first_unlike, overlaps_of, parted_sizes
from stitchsizes.patterns import Pattern, Times, Until, resized_step
from stitchsizes.pieces import weight_of
from stitchsizes.sizes import Sizes
from stitchsizes.stages import prepared, worked
from stitchsizes.stretch import Stretch, divided
from stitchsizes.weights import check_weight

_MOST_ROWS = 48


def resized(pattern, start, factor):
    """The pattern with start + factor * n in the place of the size n."""
    if not isinstance(pattern, Pattern):
        raise InvalidPattern(pattern)
    for number in (start, factor):
        if not is_count(number):
            raise InvalidNumber(number)
    cast_on = [(p + q * start, q * factor) for p, q in pattern.cast_on]
    steps = [resized_step(step, start, factor) for step in pattern.steps]
    return Pattern(pattern.book, pattern.way, cast_on, steps)


class Beside:
    """Two patterns of one book, and the sizes at which they make the same fabric, or do not."""

    def __init__(self, one, other):
        for pattern in (one, other):
            if not isinstance(pattern, Pattern):
                raise InvalidPattern(pattern)
        if one.book != other.book:
            raise InvalidPattern(other)
        check_weight(weight_of(one) * weight_of(other))
        if _rows_together(one, other) > _MOST_ROWS:
            raise TooMany("blocks", _MOST_ROWS)
        self._one = one
        self._other = other
        sizes = _sizes_by_word(one, other)
        self._alike = sizes["alike"]
        self._parted = sizes["parted"]
        self._neither = sizes["neither"]
        self._only_one = sizes["one"]
        self._only_other = sizes["other"]

    @property
    def one(self):
        """The first pattern."""
        return self._one

    @property
    def other(self):
        """The second pattern."""
        return self._other

    @property
    def alike(self):
        """The sizes at which both go through and make equal fabrics."""
        return self._alike

    @property
    def parted(self):
        """The sizes at which just one goes through, or both make unlike fabrics."""
        return self._parted

    @property
    def neither(self):
        """The sizes at which none of them goes through."""
        return self._neither

    @property
    def only_one(self):
        """The sizes at which just the first one goes through."""
        return self._only_one

    @property
    def only_other(self):
        """The sizes at which just the second one goes through."""
        return self._only_other

    @property
    def is_alike(self):
        """Whether they are alike at all sizes."""
        return not self._parted

    def word(self, size):
        """What they are at a size: "alike", "parted" or "neither"."""
        _check_size(size)
        if size in self._parted:
            return "parted"
        return "alike" if size in self._alike else "neither"

    def parting(self, size):
        """The first parting at a size, None if they are not parted."""
        _check_size(size)
        return _first_parting(self._one, self._other, size) if size in self._parted else None

    def least(self):
        """The least size at which they are parted, with the first parting there, or None."""
        size = self._parted.least()
        return None if size is None else (size, self.parting(size))

    def alike_from(self):
        """The least size from which on they are never parted, None if there is none."""
        if not self._parted.is_finite:
            return None
        return max([0] + [last + 1 for _, _, _, last in self._parted.stretches()])

    def swapped(self):
        """The same patterns in the other sequence."""
        return Beside(self._other, self._one)

    def __eq__(self, other):
        return isinstance(other, Beside) and self._one == other._one and self._other == other._other


def are_alike(one, other):
    """Whether two patterns of one book are alike at all sizes."""
    return Beside(one, other).is_alike


def _check_size(size):
    if not is_count(size):
        raise InvalidNumber(size)


def _rows_together(one, other):
    """The least common multiple of the numbers of rows of all blocks of TIMES and UNTIL."""
    rows = 1
    for step in one.steps + other.steps:
        if isinstance(step, (Times, Until)):
            rows = lcm(rows, len(step.block))
    return rows


def _sizes_by_word(one, other):
    """The sets of sizes at which both are "alike", "parted" or "neither", or just "one" or the "other" goes through."""
    found = {"alike": [], "parted": [], "neither": [], "one": [], "other": []}
    unlike = []
    subject = [(prepared(pattern.steps), pattern.cast_on) for pattern in (one, other)]
    for stretch, (word, overlaps) in divided(_beside_on, subject):
        found[word].append(stretch.span())
        for overlap in overlaps:
            parted = parted_sizes(overlap, stretch)
            unlike.extend([part.span() for part in parted])
            if stretch.span() in unlike:
                break
    sizes = {word: Sizes(*stretches) for word, stretches in found.items()}
    parted = Sizes(*unlike)
    sizes["alike"] = sizes["alike"] - parted
    sizes["parted"] = sizes["parted"] | parted | sizes["one"] | sizes["other"]
    return sizes


def _beside_on(subject, stretch):
    """What two patterns are on a stretch, as far as it can be told without their rows, and the overlaps of the rows
    that still are to be compared."""
    (stages, outcome, _), (others, ending, _) = [worked(ready, cast_on, stretch, False) for ready, cast_on in subject]
    through = [told[0] == "through" for told in (outcome, ending)]
    if not through[0] or not through[1]:
        return ("one" if through[0] else "other" if through[1] else "neither", [])
    (_, cast_on), (_, twin) = subject
    loops = [total_of([stretch.of_size(p, q) for p, q in told]) for told in (cast_on, twin)]
    if not stretch.is_zero(line_gap(loops[0], loops[1])) or not stretch.is_zero(line_gap(outcome[1], ending[1])):
        return ("parted", [])
    return ("alike", overlaps_of(stages, others, outcome[1], stretch) if stages else [])


def _first_parting(one, other, size):
    """The first parting of two patterns at a size at which they are parted."""
    stretch = Stretch(size, 1, 0)
    cast_on = [sum([p + q * size for p, q in pattern.cast_on]) for pattern in (one, other)]
    if cast_on[0] != cast_on[1]:
        return ("cast on", *cast_on)
    both = [worked(prepared(pattern.steps), pattern.cast_on, stretch, True) for pattern in (one, other)]
    # An endless pattern has all rows, so the other one goes through.
    rows = [None if told[1][0] == "endless" else told[1][1][0] for told in both]
    common = min([number for number in rows if number is not None])
    for overlap in overlaps_of(both[0][0], both[1][0], (common, 0), stretch) if common > 0 else []:
        unlike = first_unlike(overlap)
        if unlike is not None:
            return ("stitch", *unlike)
    for word, kind in (("fails", "fails"), ("through", "lacks")):
        for side, told in enumerate(both):
            if told[1][0] == word and rows[side] == common:
                return (kind, common, side + 1)
    return None
