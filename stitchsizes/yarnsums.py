"""The yarn of a step with a block, without going through all rounds."""

from stitchsizes.patterns import Repeat
from stitchsizes.quotients import quotient_sum
from stitchsizes.sections import Kept
from stitchsizes.stages import counts_of_round


def yarn_of_stage(step, table, starts, rounds):
    """The yarn of so many rounds of a step, whose starts and table are those of its stage."""
    if isinstance(step, Repeat):
        return sum([_yarn_of_round(step, table, starts[number]) for number in range(rounds)])
    if rounds == 0:
        return 0
    ahead = counts_of_round(table, starts[0])
    next_time = counts_of_round(table, starts[1]) if rounds > 1 else ahead
    total = 0
    for row, counts, others in zip(step.block, ahead, next_time):
        for text, loops, more in zip(row.texts, counts, others):
            total = total + _yarn_of_text(text, loops, more - loops, rounds)
    return total


def _yarn_of_round(step, table, counts):
    """The yarn of one round, begun with some counts."""
    return sum([row.word(ahead).yarn for row, ahead in zip(step.block, counts_of_round(table, counts))])


def _yarn_of_text(text, loops, change, rounds):
    """The yarn of a RESTED or KEPT text that is worked so often, each time on more loops, by the same change."""
    book = text.book
    first, step = text.counts()
    ends = rounds * (book.yarn_of(text.before) + book.yarn_of(text.after))
    if step == 0:
        return ends
    over = loops - first
    if isinstance(text, Kept):
        return ends + _yarn_of_letters(text, over, change, rounds)
    # The sum of the numbers 0, 1, .. of the rounds, times the change, is the change of all rounds together.
    loops_in_all = rounds * over + rounds * (rounds - 1) // 2 * change
    return ends + loops_in_all // step * book.yarn_of(text.repeated)


def _yarn_of_letters(text, over, change, rounds):
    """The yarn of the letters between the ends of a KEPT text."""
    length = len(text.repeated)
    total = 0
    for place in range(length):
        # How many of the letters stand at this place modulo the length is a rounded quotient, in each round.
        many = quotient_sum(rounds, length, change, over - place + length - 1)
        kind = text.book.kind(text.repeated[(place + text.shift) % length])
        total = total + many * kind.yarn
    return total
