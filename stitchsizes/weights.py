"""Weights: products that tell how finely the sizes of a pattern or a sketch may have to be divided."""

from stitchsizes.blocks import slopes_cancel
from stitchsizes.errors import TooMany
from stitchsizes.lists import counts_through, made_through
from stitchsizes.patterns import Cut, Merge, Repeat, Until
from stitchsizes.sections import Evenly, Kept

_GREATEST_WEIGHT = 360


def check_weight(weight):
    """Raises TooMany if a weight, or a product of weights, is too great."""
    if weight > _GREATEST_WEIGHT:
        raise TooMany("weight", _GREATEST_WEIGHT)


def step_weight(step):
    """The factors of a step of a pattern, multiplied."""
    if isinstance(step, (Cut, Merge)):
        return 1
    weight = block_weight(step.block)
    if isinstance(step, Repeat) and not slopes_cancel(step.block):
        return product_of([weight] * step.times)
    if isinstance(step, Until):
        return weight * _change_factor([row.texts[step.section] for row in step.block])
    return weight


def block_weight(block):
    """The factors of the texts of a block, multiplied."""
    return product_of([_text_factor(text) for row in block for text in row.texts])


def product_of(numbers):
    """Some numbers, multiplied."""
    total = 1
    for number in numbers:
        total = total * number
    return total


def _text_factor(text):
    if isinstance(text, Kept):
        return len(text.repeated)
    if isinstance(text, Evenly):
        return text.times + 1
    return max(text.counts()[1], 1)


def _change_factor(texts):
    """By how much a list of texts changes the loops, or 1 if it does not change them, or fits none."""
    counts = counts_through(texts)
    if counts is None:
        return 1
    return max(abs(made_through(texts)[0] - counts[0]), 1)
