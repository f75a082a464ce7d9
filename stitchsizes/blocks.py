"""Blocks: the row texts that a step works again and again."""

from stitchsizes.checks import is_list_of
from stitchsizes.errors import InvalidBlock
from stitchsizes.rows import RowText
from stitchsizes.sections import Evenly

_MOST_ROWS = 240


def check_block(block):
    """Raises InvalidBlock unless a value is a list of row texts of one book and with as many sections."""
    if not is_list_of(block, 1, _MOST_ROWS):
        raise InvalidBlock(None)
    for position in range(len(block)):
        if not is_row_beside(block, position):
            raise InvalidBlock(position)


def is_row_beside(block, position):
    """Whether the value at a position of a block is a row text of the book, and over the sections, of the first one."""
    row = block[position]
    return isinstance(row, RowText) and row.book == block[0].book and len(row) == len(block[0])


def is_steady(block):
    """Whether each round of a block changes the loops of each section by the same number.

    No section text is EVENLY then, and for each section the product of the slopes of its texts is 1.
    """
    evenly = [text for row in block for text in row.texts if isinstance(text, Evenly)]
    return not evenly and slopes_cancel(block)


def slopes_cancel(block):
    """Whether for each section the product of the slopes of its texts is 1."""
    for section in range(len(block[0])):
        top, bottom = _slope_through([row.texts[section] for row in block])
        if top != bottom:
            return False
    return True


def first_without_back(book, block):
    """The first name in the sequence of the text of a block whose kind has no back, or None."""
    for row in block:
        for text in row.texts:
            for name in _names_of(text):
                if book.kind(name).back is None:
                    return name
    return None


def _slope_through(texts):
    """The product of the slopes of some texts, as numbers (top, bottom)."""
    top = 1
    bottom = 1
    for text in texts:
        slope = text.slope()
        top = top * slope[0]
        bottom = bottom * slope[1]
    return (top, bottom)


def _names_of(text):
    """The names of a section text in the sequence in which they are written."""
    if isinstance(text, Evenly):
        return (*text.deed, text.plain)
    return text.before + text.repeated + text.after
