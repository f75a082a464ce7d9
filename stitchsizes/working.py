"""Work: a pattern at one size, row by row, also where no one could work so many rows."""

from stitchsizes.checks import is_count
from stitchsizes.errors import InvalidNumber, InvalidPattern, NoRow, NotThrough, TooMany
from stitchsizes.fabrics import Fabric
from stitchsizes.patterns import Pattern
from stitchsizes.stages import all_stages, counts_within, start_of
from stitchsizes.yarnsums import yarn_of_stage

_MOST_ROWS = 400


class Work:
    """What comes of a pattern at a size."""

    def __init__(self, pattern, size):
        _check(pattern, size)
        stages, outcome, stop = all_stages(pattern, size)
        self._pattern = pattern
        self._size = size
        self._stages = tuple(stages)
        self._outcome = outcome
        self._stop = stop

    @property
    def pattern(self):
        """The pattern."""
        return self._pattern

    @property
    def size(self):
        """The size."""
        return self._size

    @property
    def outcome(self):
        """The outcome of the pattern at the size."""
        return self._outcome

    @outcome.setter
    def outcome(self, value):
        # Errors assign attributes of this name, so the property needs a setter; a work does not change.
        raise AttributeError("outcome")

    @property
    def row_count(self):
        """The number of rows that can be worked, None if it is endless."""
        return None if self._stop is None else self._outcome[1]

    def row(self, number):
        """The long word of a row, as seen."""
        text, counts = self._text_and_counts(number)
        return text.word(counts)

    def worked_row(self, number):
        """The long word of a row as it is worked, by the way of the pattern."""
        text, counts = self._text_and_counts(number)
        way = self._pattern.way
        if way == "round":
            return text.worked(counts, "right")
        return text.worked(counts, "right" if (way == "right") == (number % 2 == 0) else "wrong")

    def counts(self, number):
        """The counts of the sections ahead of a row, or, for the number of rows, those with which the work stops."""
        if self._stop is not None and is_count(number) and number == self.row_count:
            return self._stop
        text, counts = self._text_and_counts(number)
        return counts

    def place(self, number):
        """Where a row stands, as a tuple (step, round, index)."""
        stage, times, index = self._stage_of(number)
        return (stage[0], times, index)

    def each_row(self):
        """The rows as seen, in order."""
        number = 0
        while self.row_count is None or number < self.row_count:
            yield self.row(number)
            number = number + 1

    def fabric(self):
        """The fabric of the rows."""
        if self._outcome[0] != "through":
            raise NotThrough(self._outcome)
        if self.row_count > _MOST_ROWS:
            raise TooMany("rows", _MOST_ROWS)
        cast_on = sum([p + q * self._size for p, q in self._pattern.cast_on])
        return Fabric(self._pattern.book, cast_on, [self.row(number) for number in range(self.row_count)])

    def _stage_of(self, number):
        """The stage of a row, the round, and the index in it."""
        if not is_count(number) or self._stop is not None and number >= self.row_count:
            raise NoRow(number)
        # Of several stages that begin with the same row, only the last one has it.
        begun = [stage for stage in self._stages if stage[1] <= number]
        last = begun[-1]
        behind = number - last[1]
        return (last, behind // len(last[2]), behind % len(last[2]))

    def _text_and_counts(self, number):
        """The row text of a row, and the counts ahead of it."""
        stage, times, index = self._stage_of(number)
        step, _, table, starts = stage
        counts = counts_within(table, start_of(starts, times), index)
        return (self._pattern.steps[step].block[index], counts)


def outcome_at(pattern, size):
    """The outcome of a pattern at a size."""
    _check(pattern, size)
    return all_stages(pattern, size)[1]


def yarn_at(pattern, size):
    """The yarn of a pattern at a size at which it goes through."""
    _check(pattern, size)
    stages, outcome, stop = all_stages(pattern, size)
    if outcome[0] != "through":
        raise NotThrough(outcome)
    total = 0
    ends = [stage[1] for stage in stages[1:]] + [outcome[1]]
    for stage, end in zip(stages, ends):
        number, first, table, starts = stage
        total = total + yarn_of_stage(pattern.steps[number], table, starts, (end - first) // len(table))
    return total


def _check(pattern, size):
    if not isinstance(pattern, Pattern):
        raise InvalidPattern(pattern)
    if not is_count(size):
        raise InvalidNumber(size)
