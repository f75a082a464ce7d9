"""Sketches worked at one size, and merged into patterns for all sizes."""

from stitchsizes.alongplans import AlongPlan
from stitchsizes.alongs import along_steps
from stitchsizes.checks import is_count
from stitchsizes.errors import InvalidNumber, InvalidSketch
from stitchsizes.patterns import Pattern, resized_step
from stitchsizes.schedules import Along, Sketch
from stitchsizes.sizes import Sizes
from stitchsizes.stages import prepared, worked_step
from stitchsizes.stretch import Stretch, divided
from stitchsizes.weights import block_weight, check_weight, product_of, step_weight
from stitchsizes.working import Work


class SketchWork:
    """What comes of a sketch at a size."""

    def __init__(self, sketch, size):
        weight = sketch_weight(sketch)
        if not is_count(size):
            raise InvalidNumber(size)
        check_weight(weight)
        pattern, _ = _merged_on(_plan_of(sketch), Stretch(size, 1, 0))
        self._sketch = sketch
        self._size = size
        self._work = Work(pattern, 0)

    @property
    def sketch(self):
        """The sketch."""
        return self._sketch

    @property
    def size(self):
        """The size."""
        return self._size

    @property
    def outcome(self):
        """The outcome: ("through", rows, counts), ("fails", row) or ("endless",)."""
        told = self._work.outcome
        if told[0] == "through":
            return told
        return told[:2] if told[0] == "fails" else told[:1]

    @outcome.setter
    def outcome(self, value):
        # Errors assign attributes of this name, so the property needs a setter; a work does not change.
        raise AttributeError("outcome")

    @property
    def row_count(self):
        """The number of rows that can be worked, None if it is endless."""
        return self._work.row_count

    def row(self, number):
        """The long word of a row, as seen."""
        return self._work.row(number)

    def counts(self, number):
        """The counts of the sections ahead of a row, or, for the number of rows, those with which the work stops."""
        return self._work.counts(number)

    def each_row(self):
        """The rows as seen, in order."""
        number = 0
        while self.row_count is None or number < self.row_count:
            yield self.row(number)
            number = number + 1


def merged(sketch):
    """The list of the parts of a sketch: tuples (modulus, residue, first, last, pattern)."""
    _check(sketch)
    return [(*stretch.sizes(), pattern) for stretch, (pattern, _) in divided(_merged_on, _plan_of(sketch))]


def sketch_through(sketch):
    """The sizes at which a sketch goes through."""
    _check(sketch)
    found = divided(_merged_on, _plan_of(sketch))
    stretches = [stretch.span() for stretch, (_, ending) in found if ending == "through"]
    return Sizes(*stretches)


def sketch_weight(sketch):
    """The weight of a sketch."""
    if not isinstance(sketch, Sketch):
        raise InvalidSketch(sketch)
    return product_of([_along_weight(step) if isinstance(step, Along) else step_weight(step) for step in sketch.steps])


def _check(sketch):
    check_weight(sketch_weight(sketch))


def _along_weight(along):
    book = along.base[0].book
    weight = block_weight(along.base)
    for schedule in along.schedules:
        change = abs(book.made(schedule.deed) - book.taken(schedule.deed))
        if change > 0:
            weight = weight * change * schedule.every
    return weight


def _plan_of(sketch):
    """The sketch, with its steps ready to be worked."""
    return (sketch, [AlongPlan(step) if isinstance(step, Along) else prepared([step])[0] for step in sketch.steps])


def _merged_on(plan, stretch):
    """The pattern that a sketch becomes on a stretch, and how it ends: "through" or "stops"."""
    sketch, ready = plan
    cast_on = tuple([stretch.of_size(p, q) for p, q in sketch.cast_on])
    counts = cast_on
    steps = []
    ending = "through"
    for step, told in zip(sketch.steps, ready):
        if isinstance(step, Along):
            found, ending, counts = along_steps(told, stretch, counts)
            steps.extend(found)
        else:
            steps.append(resized_step(step, stretch.start, stretch.modulus))
            _, _, counts, outcome = worked_step(0, told, stretch, (0, 0), counts, False)
            ending = "through" if outcome is None else "stops"
        if ending != "through":
            break
    return (Pattern(sketch.book, sketch.way, cast_on, steps), ending)
