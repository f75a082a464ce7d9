"""Comparing trees: where two families, or the words of two section texts, are equal, and where they first differ."""

from math import lcm

from stitchsizes.cells import Cell
from stitchsizes.checks import is_integer
from stitchsizes.errors import BelowZero, InvalidBooks, InvalidCell, InvalidFamily, InvalidPoint, InvalidTexts, TooMany
from stitchsizes.families import Family, part_below, period_of, text_family
from stitchsizes.forms import Form
from stitchsizes.growing import grown
from stitchsizes.progressions import common_part
from stitchsizes.sections import SectionText

_LONGEST_PERIOD = 840


class Tree:
    """The comparing tree of two families over a cell. It is made by compare."""

    def __init__(self, one, other, cell):
        nodes, leaves = grown(one, other, cell)
        self._one = one
        self._other = other
        self._cell = cell
        self._nodes = nodes
        self._leaves = leaves

    @property
    def nodes(self):
        """The told forms of the nodes."""
        return self._nodes

    @property
    def is_alike(self):
        """Whether both families are the same word at all points."""
        return all([leaf[1] is None for leaf in self._leaves])

    def leaves(self):
        """The leaves as tuples (cell, place, name, name)."""
        for leaf in self._leaves:
            yield leaf

    def at(self, x, y=0):
        """Where both words first differ at a point, and their letters there; None if they are equal."""
        if (x, y) not in self._cell:
            raise InvalidPoint((x, y))
        cell, place, name, twin = self._leaf_of(x, y)
        return None if place is None else (place.at(x, y), name, twin)

    def least(self):
        """The least point at which both words differ, with the place and the letters there, or None."""
        found = None
        for cell, place, name, twin in self._leaves:
            if place is not None:
                point = cell.least()
                if found is None or point < found[0]:
                    found = (point, place.at(point[0], point[1]), name, twin)
        return found

    def _leaf_of(self, x, y):
        """The leaf in which a point of the cell lies."""
        lying = [leaf for leaf in self._leaves if (x, y) in leaf[0]]
        return lying[0]

    def __len__(self):
        return len(self._nodes)

    def __eq__(self, other):
        return isinstance(other, Tree) and _tree_parts(self) == _tree_parts(other)


def compare(one, other, cell):
    """The comparing tree of two families over a cell."""
    _check_families(one, other, cell)
    return Tree(one, other, cell)


def agreed(one, other, cell):
    """A list of cells: each point at which the words are equal is in just one of them, and no other point is."""
    _check_families(one, other, cell)
    if cell.is_empty:
        return []
    leaves = grown(one, other, cell)[1]
    return [found for found, place, _, _ in leaves if place is None]


def is_tree(one, other, cell, value):
    """Whether any value is a comparing tree of two families over a cell, in whatever sequence its nodes stand."""
    _check_families(one, other, cell)
    nodes = grown(one, other, cell)[0]
    if not isinstance(value, tuple) or len(value) != len(nodes):
        return False
    # For each position of the value the node that has to stand there.
    wanted = {0: nodes[0]}
    for position, told in enumerate(value):
        if position not in wanted:
            return False
        sons = _matched_sons(told, wanted[position])
        if sons is None:
            return False
        for there, son in sons:
            if not position < there < len(value) or there in wanted:
                return False
            wanted[there] = nodes[son]
    return True


def texts_compared(one, other):
    """For all counts that fit two section texts, the tuples (first, step, Tree) of the progressions that they form."""
    _check_texts(one, other)
    period = lcm(period_of(one), period_of(other))
    if period > _LONGEST_PERIOD:
        raise TooMany("period", _LONGEST_PERIOD)
    for first in _first_counts(one, other, period):
        loops = Form(period, 0, first)
        cell = Cell.flat(Form(-1)) if period == 0 else Cell.flat()
        yield (first, period, compare(text_family(one, loops), text_family(other, loops), cell))


def first_unlike(one, other):
    """The least count of which two section texts make unlike words, with the place and the letters there, or None."""
    found = None
    for first, step, tree in texts_compared(one, other):
        least = tree.least()
        if least is not None:
            point, place, name, twin = least
            loops = first + step * point[0]
            if found is None or loops < found[0]:
                found = (loops, place, name, twin)
    return found


def _tree_parts(tree):
    return (tree._one, tree._other, tree._cell, tree._nodes)


def _check_families(one, other, cell):
    for family in (one, other):
        if not isinstance(family, Family):
            raise InvalidFamily(family)
    if one.book != other.book:
        raise InvalidBooks()
    if not isinstance(cell, Cell):
        raise InvalidCell(None)
    for family in (one, other):
        position = part_below(family, cell)
        if position is not None:
            raise BelowZero(position)


def _check_texts(one, other):
    for position, text in enumerate((one, other)):
        if not isinstance(text, SectionText):
            raise InvalidTexts(position)
    if one.book != other.book:
        raise InvalidTexts(1)


def _first_counts(one, other, period):
    """The least count of each residue modulo a period that fits two texts; all of them, if the period is 0."""
    common = common_part(one.counts(), other.counts())
    if common is None:
        return []
    first, step = common
    if period == 0:
        return [first]
    return list(range(first, first + period, step))


def _matched_sons(told, node):
    """For the sons of a node the tuples (position, number of the node), as told by any value; None if it is unlike."""
    if not isinstance(told, tuple) or len(told) != len(node):
        return None
    begin = 2 if node[0] in ("parts", "apart") else 1
    for part, wanted in zip(told[:begin], node[:begin]):
        if not _is_same(part, wanted):
            return None
    return _paired(told[begin:], node[begin:])


def _paired(told, sons):
    """The tuples (position, number of the node) for sons and tuples of sons, or None where they are told unlike."""
    pairs = []
    for part, son in zip(told, sons):
        if isinstance(son, tuple):
            inner = _paired(part, son) if isinstance(part, tuple) and len(part) == len(son) else None
            if inner is None:
                return None
            pairs.extend(inner)
        elif son is not None and is_integer(part):
            pairs.append((part, son))
        elif son is not None or part is not None:
            return None
    return pairs


def _is_same(value, wanted):
    """Whether any value is a string, or an integer, that is wanted."""
    if isinstance(wanted, str):
        return isinstance(value, str) and value == wanted
    return is_integer(value) and value == wanted
