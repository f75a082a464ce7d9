"""The yarn of stages, without going through all rounds.

The yarn of a section text is told by numbers (first, period, ends, sums): on first + over loops it needs the yarn of
its ends, for each whole period of the loops that are over the last one of the sums, and for what is left of them the
sum with this number.
"""

from math import gcd

from stitchsizes.lines import value_at
from stitchsizes.patterns import Cut, Merge
from stitchsizes.sections import Evenly, Kept


def yarn_tables(steps):
    """For each step the numbers of its texts: a list for each row of its block, with a tuple for each section."""
    return [[] if isinstance(step, (Cut, Merge)) else _table_of(step.block) for step in steps]


def yarn_of_stages(stages, tables, k):
    """The yarn of all stages at one of the sizes."""
    return sum([_yarn_of_stage(stage, tables[stage.number], k) for stage in stages])


def make_even(stages, tables, stretch):
    """Raises Uneven unless the yarn of the stages is a square function of k on a stretch."""
    for stage in stages:
        for row, counts, changes in zip(tables[stage.number], stage.ahead, stage.changes):
            for (_, period, _, _), loops, change in zip(row, counts, changes):
                stretch.remainder(loops, period)
                stretch.remainder(stage.rounds, period // gcd(period, change))


def _table_of(block):
    return [[_yarn_numbers(text) for text in row.texts] for row in block]


def _yarn_numbers(text):
    book = text.book
    first, step = text.counts()
    if isinstance(text, Evenly):
        return (first, 1, text.times * book.yarn_of(text.deed), (0, book.kind(text.plain).yarn))
    ends = book.yarn_of(text.before) + book.yarn_of(text.after)
    if isinstance(text, Kept):
        sums = _sums_of([book.kind(name).yarn for name in text.repeated[text.shift:] + text.repeated[:text.shift]])
        return (first, len(sums) - 1, ends, sums)
    # What is over of a RESTED text is always a multiple of the step, so no other sums are asked for.
    period = max(step, 1)
    return (first, period, ends, (0,) * period + (book.yarn_of(text.repeated),))


def _sums_of(weights):
    """The sums of the first of some numbers, from none of them to all; of just one number if all are the same."""
    if weights.count(weights[0]) == len(weights):
        return (0, weights[0])
    sums = [0]
    for weight in weights:
        sums.append(sums[-1] + weight)
    return tuple(sums)


def _yarn_of_stage(stage, table, k):
    rounds = value_at(stage.rounds, k)
    total = 0
    for row, counts, changes in zip(table, stage.ahead, stage.changes):
        for numbers, loops, change in zip(row, counts, changes):
            total = total + _yarn_of_text(numbers, value_at(loops, k) - numbers[0], change, rounds)
    return total


def _yarn_of_text(numbers, over, change, rounds):
    """The yarn of a text that is worked so often, each time on more loops, by the same change."""
    _, period, ends, sums = numbers
    # What is left of the loops that are over comes again and again.
    cycle = period // gcd(period, change)
    left = 0
    parts = 0
    for place in range(cycle):
        times = rounds // cycle + (1 if place < rounds % cycle else 0)
        rest = (over + place * change) % period
        left = left + times * rest
        parts = parts + times * sums[rest]
    over_in_all = rounds * over + rounds * (rounds - 1) // 2 * change
    return rounds * ends + (over_in_all - left) // period * sums[period] + parts
