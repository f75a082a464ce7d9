"""Work: a pattern at one size, row by row, also where no one could work so many rows."""

from stitchsizes.checks import is_count
from stitchsizes.errors import InvalidNumber, InvalidPattern, NoRow, NotThrough, TooMany
from stitchsizes.fabrics import Fabric
from stitchsizes.lines import value_at
from stitchsizes.patterns import Pattern
from stitchsizes.stages import outcome_told, prepared, worked
from stitchsizes.stretch import Stretch
from stitchsizes.yarnsums import yarn_of_stages, yarn_tables

_MOST_ROWS = 400


class Work:
    """What comes of a pattern at a size."""

    def __init__(self, pattern, size):
        _check(pattern, size)
        stages, outcome, stop = _worked_at(pattern, size)
        self._pattern = pattern
        self._size = size
        self._stages = tuple(stages)
        self._outcome = outcome
        self._stop = stop

    @property
    def pattern(self):
        """The pattern."""
        return self._pattern

    @property
    def size(self):
        """The size."""
        return self._size

    @property
    def outcome(self):
        """The outcome of the pattern at the size."""
        return self._outcome

    @outcome.setter
    def outcome(self, value):
        # Errors assign attributes of this name, so the property needs a setter; a work does not change.
        raise AttributeError("outcome")

    @property
    def row_count(self):
        """The number of rows that can be worked, None if it is endless."""
        return None if self._stop is None else self._outcome[1]

    def row(self, number):
        """The long word of a row, as seen."""
        text, counts = self._text_and_counts(number)
        return text.word(counts)

    def worked_row(self, number):
        """The long word of a row as it is worked, by the way of the pattern."""
        text, counts = self._text_and_counts(number)
        way = self._pattern.way
        if way == "round":
            return text.worked(counts, "right")
        return text.worked(counts, "right" if (way == "right") == (number % 2 == 0) else "wrong")

    def counts(self, number):
        """The counts of the sections ahead of a row, or, for the number of rows, those with which the work stops."""
        if self._stop is not None and is_count(number) and number == self.row_count:
            return self._stop
        text, counts = self._text_and_counts(number)
        return counts

    def place(self, number):
        """Where a row stands, as a tuple (step, round, index)."""
        stage, times, index = self._stage_of(number)
        return (stage.number, times, index)

    def each_row(self):
        """The rows as seen, in order."""
        number = 0
        while self.row_count is None or number < self.row_count:
            yield self.row(number)
            number = number + 1

    def fabric(self):
        """The fabric of the rows."""
        if self._outcome[0] != "through":
            raise NotThrough(self._outcome)
        if self.row_count > _MOST_ROWS:
            raise TooMany("rows", _MOST_ROWS)
        cast_on = sum([p + q * self._size for p, q in self._pattern.cast_on])
        return Fabric(self._pattern.book, cast_on, [self.row(number) for number in range(self.row_count)])

    def _stage_of(self, number):
        """The stage of a row, the round of its step, and the index in it."""
        if not is_count(number) or self._stop is not None and number >= self.row_count:
            raise NoRow(number)
        stage = self._stages[_last_begun(self._stages, number)]
        behind = number - value_at(stage.begin, 0)
        many = len(stage.row_texts)
        return (stage, stage.since + behind // many, behind % many)

    def _text_and_counts(self, number):
        """The row text of a row, and the counts ahead of it."""
        stage, times, index = self._stage_of(number)
        counts = stage.counts_at((times - stage.since, 0), index)
        return (stage.row_texts[index], tuple([value_at(loops, 0) for loops in counts]))


def outcome_at(pattern, size):
    """The outcome of a pattern at a size."""
    _check(pattern, size)
    return _worked_at(pattern, size)[1]


def yarn_at(pattern, size):
    """The yarn of a pattern at a size at which it goes through."""
    _check(pattern, size)
    stages, outcome, stop = _worked_at(pattern, size)
    if outcome[0] != "through":
        raise NotThrough(outcome)
    return yarn_of_stages(stages, yarn_tables(pattern.steps), 0)


def _worked_at(pattern, size):
    """The stages of a pattern at a size, its outcome, and the counts with which the work stops, None if it is endless.
    """
    stages, outcome, stop = worked(prepared(pattern.steps), pattern.cast_on, Stretch(size, 1, 0), True)
    if stop is not None:
        stop = tuple([value_at(loops, 0) for loops in stop])
    return (stages, outcome_told(outcome, 0), stop)


def _last_begun(stages, number):
    """The position of the last stage that begins with a row or ahead of it."""
    low = 0
    high = len(stages) - 1
    while low < high:
        middle = (low + high + 1) // 2
        if value_at(stages[middle].begin, 0) <= number:
            low = middle
        else:
            high = middle - 1
    return low


def _check(pattern, size):
    if not isinstance(pattern, Pattern):
        raise InvalidPattern(pattern)
    if not is_count(size):
        raise InvalidNumber(size)
