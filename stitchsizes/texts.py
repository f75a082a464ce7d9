"""Texts of books and patterns, written and read."""

from stitchsizes.checks import is_count, is_count_to, is_name
from stitchsizes.errors import InvalidBook, InvalidLine, InvalidNumber, InvalidPattern, NotThrough
from stitchsizes.kinds import Book, Kind
from stitchsizes.lines import value_at
from stitchsizes.patterns import Cut, Pattern, Repeat, Times, Until
from stitchsizes.phrases import number_text, read_count, row_phrase, runs_text, section_phrase
from stitchsizes.reading import PatternReader, row_of, section_of
from stitchsizes.stages import outcome_told, prepared, worked
from stitchsizes.stretch import Stretch

_MOST_LOOPS = 6
_MOST_YARN = 999
_MOST_KINDS = 24


def word_text(word):
    """The text of a tuple of names."""
    return runs_text(word)


def section_text(text):
    """The text of a section text."""
    return section_phrase(text)


def row_text(row):
    """The text of a row text."""
    return row_phrase(row)


def book_text(book):
    """The text of a book."""
    return _joined_lines([_kind_line(kind) for kind in book])


def pattern_text(pattern):
    """The text of a pattern."""
    if not isinstance(pattern, Pattern):
        raise InvalidPattern(pattern)
    lines = [pattern.way, f"cast on {' | '.join([number_text(p, q) for p, q in pattern.cast_on])}"]
    for step in pattern.steps:
        lines.append(_step_line(step))
        if isinstance(step, (Repeat, Times, Until)):
            lines.extend([f"- {row_phrase(row)}" for row in step.block])
    return _joined_lines(lines)


def read_section(book, text):
    """The section text that any value is the text of."""
    found = section_of(book, text) if isinstance(text, str) else None
    if found is None:
        raise InvalidLine(1)
    return found


def read_row(book, text):
    """The row text that any value is the text of."""
    found = row_of(book, text) if isinstance(text, str) else None
    if found is None:
        raise InvalidLine(1)
    return found


def read_book(text):
    """The book that any value is the text of."""
    lines, behind = _lines_of(text)
    kinds = []
    for number, line in enumerate(lines):
        kind = _kind_of(line)
        if kind is None or number == _MOST_KINDS or kinds and kind.name <= kinds[-1].name:
            raise InvalidLine(number + 1)
        kinds.append(kind)
    if behind:
        raise InvalidLine(len(lines) + 1)
    try:
        return Book(*kinds)
    except InvalidBook:
        raise InvalidLine(len(lines) + 1)


def read_pattern(book, text):
    """The pattern over a book that any value is the text of."""
    lines, behind = _lines_of(text)
    reader = PatternReader(book)
    for number, line in enumerate(lines):
        if not reader.reads(line):
            raise InvalidLine(number + 1)
    if behind or not reader.is_whole():
        raise InvalidLine(len(lines) + 1)
    return reader.result()


def written_at(pattern, size):
    """The pattern written at a size at which it goes through."""
    if not isinstance(pattern, Pattern):
        raise InvalidPattern(pattern)
    if not is_count(size):
        raise InvalidNumber(size)
    stages, outcome, _ = worked(prepared(pattern.steps), pattern.cast_on, Stretch(size, 1, 0), True)
    if outcome[0] != "through":
        raise NotThrough(outcome_told(outcome, 0))
    rounds = {stage.number: value_at(stage.rounds, 0) for stage in stages}
    steps = []
    for number, step in enumerate(pattern.steps):
        is_counted = isinstance(step, (Times, Until))
        steps.append(Times(step.block, rounds.get(number, 0), 0) if is_counted else step)
    return Pattern(pattern.book, pattern.way, [(p + q * size, 0) for p, q in pattern.cast_on], steps)


def _joined_lines(lines):
    """The text of some lines, each of which ends with a line feed."""
    return "".join([f"{line}\n" for line in lines])


def _lines_of(text):
    """The lines of any value that end with a line feed, and what stands behind the last line feed."""
    if not isinstance(text, str):
        raise InvalidLine(None)
    lines = text.split("\n")
    behind = lines.pop()
    return (lines, behind)


def _kind_line(kind):
    twins = ["-" if twin is None else twin for twin in (kind.back, kind.mirror)]
    return f"kind {kind.name} {kind.takes} {kind.makes} {' '.join(twins)} {kind.yarn}"


def _kind_of(line):
    """The kind that a line tells, or None."""
    words = line.split(" ")
    if len(words) != 7 or words[0] != "kind" or not is_name(words[1]):
        return None
    numbers = [read_count(word) for word in (words[2], words[3], words[6])]
    if not is_count_to(numbers[0], _MOST_LOOPS) or not is_count_to(numbers[1], _MOST_LOOPS):
        return None
    if not is_count_to(numbers[2], _MOST_YARN) or numbers[0] == 0 and numbers[1] == 0:
        return None
    if not all([word == "-" or is_name(word) for word in words[4:6]]):
        return None
    twins = [None if word == "-" else word for word in words[4:6]]
    return Kind(words[1], numbers[0], numbers[1], back=twins[0], mirror=twins[1], yarn=numbers[2])


def _step_line(step):
    if isinstance(step, Repeat):
        return f"repeat {step.times}"
    if isinstance(step, Times):
        return f"times {number_text(step.p, step.q)}"
    if isinstance(step, Until):
        return f"until {step.section} {step.way} {step.loops}"
    if isinstance(step, Cut):
        return f"cut {step.section} {step.edge} {step.loops}"
    return f"merge {step.section}"
