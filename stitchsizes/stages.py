"""How a pattern is worked at one size, without going through all rounds.

A STAGE is what a step with a block does: a tuple (number of the step, first row, table, starts).
- The TABLE has for each row of the block, and in it for each section, the numbers (first, step, made_first, made_step)
  of its text.
- The STARTS are the counts of the sections ahead of the rounds. Of a step TIMES or UNTIL they are only the first three:
  from round to round they change by the same numbers, as long as all texts fit.
"""

from stitchsizes.patterns import Cut, Merge, Repeat, Times
from stitchsizes.progressions import place_in
from stitchsizes.rows import cut_section, merge_section

_KNOWN_STARTS = 3


def all_stages(pattern, size):
    """The stages of a pattern at a size, its outcome, and the counts with which the work stops, None if it is endless.
    """
    counts = tuple([p + q * size for p, q in pattern.cast_on])
    row = 0
    stages = []
    for number, step in enumerate(pattern.steps):
        if isinstance(step, Cut):
            if counts[step.section] < step.loops:
                return (stages, ("fails", row, number, 0, 0, step.section, counts[step.section]), counts)
            counts = cut_section(counts, step.section, step.edge, step.loops)
        elif isinstance(step, Merge):
            counts = merge_section(counts, step.section)
        else:
            table = [[text.counts() + text.made_counts() for text in texts.texts] for texts in step.block]
            starts, rounds, failing = _worked_block(step, size, table, counts)
            stages.append((number, row, table, starts))
            if rounds is None:
                return (stages, ("endless", number), None)
            row = row + rounds * len(table)
            if failing is not None:
                index, section, counts = failing
                return (stages, ("fails", row + index, number, rounds, index, section, counts[section]), counts)
            counts = start_of(starts, rounds)
    return (stages, ("through", row, counts), counts)


def start_of(starts, number):
    """The counts ahead of a round."""
    if number < len(starts):
        return starts[number]
    return tuple([first + number * (second - first) for first, second in zip(starts[0], starts[1])])


def counts_within(table, counts, index):
    """The counts ahead of a row of a round that has begun with some counts, and in which all rows before fit."""
    for row in table[:index]:
        counts = _behind_row(row, counts)[0]
    return counts


def counts_of_round(table, counts):
    """The list of the counts ahead of each row of a round that has begun with some counts, and in which all rows fit.
    """
    ahead = []
    for row in table:
        ahead.append(counts)
        counts = _behind_row(row, counts)[0]
    return ahead


def _worked_block(step, size, table, counts):
    """The starts of a step with a block, the number of rounds that are worked, and how the next one fails or None.

    The number is None if the rounds go on for ever. How a round fails is a tuple (index, section, counts).
    """
    starts = [counts]
    while not _is_over(step, size, len(starts) - 1, starts[-1]):
        if len(starts) == _KNOWN_STARTS and not isinstance(step, Repeat):
            return _worked_far(step, size, table, starts)
        behind, failing = _behind_round(table, starts[-1])
        if failing is not None:
            return (starts, len(starts) - 1, failing)
        starts.append(behind)
    return (starts, len(starts) - 1, None)


def _is_over(step, size, number, counts):
    """Whether a step with a block ends ahead of a round."""
    if isinstance(step, Repeat):
        return number >= step.times
    if isinstance(step, Times):
        return number >= step.p + step.q * size
    loops = counts[step.section]
    if step.way == "just":
        return loops == step.loops
    return loops <= step.loops if step.way == "at most" else loops >= step.loops


def _behind_round(table, counts):
    """The counts behind a round, and None; or None, and how the round fails."""
    for index, row in enumerate(table):
        made, section = _behind_row(row, counts)
        if made is None:
            return (None, (index, section, counts))
        counts = made
    return (counts, None)


def _behind_row(row, counts):
    """The counts behind a row, and None; or None, and the first section that does not fit."""
    made = []
    for section, (first, step, made_first, made_step) in enumerate(row):
        place = place_in((first, step), counts[section])
        if place is None:
            return (None, section)
        made.append(made_first + place * made_step)
    return (tuple(made), None)


def _worked_far(step, size, table, starts):
    """As _worked_block, behind the rounds that are worked one by one."""
    ending = step.p + step.q * size if isinstance(step, Times) else _ending_round(step, starts)
    failing = _failing_round(table, starts)
    if ending is not None and (failing is None or ending <= failing[0]):
        return (starts, ending, None)
    if failing is None:
        return (starts, None, None)
    number, index, section = failing
    return (starts, number, (index, section, counts_within(table, start_of(starts, number), index)))


def _ending_round(step, starts):
    """The round ahead of which an UNTIL ends that has not ended ahead of the first ones, or None."""
    loops = starts[0][step.section]
    change = starts[1][step.section] - loops
    missing = step.loops - loops
    if change == 0:
        return None
    if step.way == "just":
        return missing // change if missing % change == 0 and missing // change > 0 else None
    if (step.way == "at most") != (change < 0):
        return None
    return -(-missing // change)


def _failing_round(table, starts):
    """The first round that fails for want of loops, with the index of the row and the section, or None."""
    failing = []
    ahead = counts_of_round(table, starts[0])
    next_time = counts_of_round(table, starts[1])
    for index, row in enumerate(table):
        for section, numbers in enumerate(row):
            loops = ahead[index][section]
            change = next_time[index][section] - loops
            if change < 0:
                failing.append(((loops - numbers[0]) // -change + 1, index, section))
    return min(failing) if failing else None
