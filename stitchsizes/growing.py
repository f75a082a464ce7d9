"""How comparing trees grow: from each node its told form and its sons follow.

A node that is still to be worked out is a tuple (cell, one, other, place, distance): both rests, which are still to be
put in order, the place as a form, and None; or, for the son `beyond`, both rests in order, and at which distance from
its place they part.
A leaf is a tuple (cell, place, name, name), with None for all but the cell if it is alike.
"""

from stitchsizes.errors import TooMany
from stitchsizes.forms import Form
from stitchsizes.items import (
    common_length, front_length, front_of, is_power, power_position, put_in_order, without_common_letters,
)

_MOST_NODES = 20000


def grown(one, other, cell):
    """The tuple of the told forms of the nodes of the tree of two families, and the tuple of its leaves."""
    if cell.is_empty:
        return ((("alike",),), ((cell, None, None, None),))
    waiting = [(cell, one.parts, other.parts, Form(), None)]
    nodes = []
    leaves = []
    while len(nodes) < len(waiting):
        head, groups, leaf = _worked_out(waiting[len(nodes)])
        # Rests can be long, and are not needed any more.
        waiting[len(nodes)] = None
        told = [_with_positions(group, waiting) for group in groups]
        nodes.append(_told_form(head, told))
        if leaf is not None:
            leaves.append(leaf)
    return (tuple(nodes), tuple(leaves))


def _with_positions(group, waiting):
    """Lets the sons of a group wait, and tells their positions, None where their cell is empty."""
    positions = []
    for son in group:
        if son[0].is_empty:
            positions.append(None)
        elif len(waiting) == _MOST_NODES:
            raise TooMany("nodes", _MOST_NODES)
        else:
            positions.append(len(waiting))
            waiting.append(son)
    return tuple(positions)


def _told_form(head, groups):
    """The told form: in "apart" the sons of one and of other stand in tuples of their own."""
    if not groups:
        return head
    if head[0] == "same":
        sons = groups[0]
        return (*head, *sons)
    ones, others, beyond = groups
    return (*head, ones, others, *beyond)


def _worked_out(node):
    """The beginning of the told form of a node, the groups of its sons, and its leaf or None."""
    cell, one, other, place, distance = node
    if distance is not None:
        return _parted(cell, one, other, place, distance)
    common, one, other = without_common_letters(put_in_order(one), put_in_order(other))
    place = place + common
    if not one and not other:
        return (("alike",), (), (cell, None, None, None))
    if not _begins_with_power(one) and not _begins_with_power(other):
        return _parted(cell, one, other, place, 0)
    if _begins_with_power(one) and _begins_with_power(other) and one[0][0] == other[0][0]:
        return (("same",), (_sons_of_same(cell, one, other, place),), None)
    return _apart(cell, one, other, place)


def _begins_with_power(items):
    return len(items) > 0 and is_power(items[0])


def _parted(cell, one, other, place, distance):
    """A leaf at which the fronts of two rests part at a distance."""
    leaf = (cell, place + distance, _letter_at(one, distance), _letter_at(other, distance))
    return (("parts", distance), (), leaf)


def _letter_at(items, distance):
    """The letter of a front at a distance, or None if the front has ended."""
    letters = front_of(items, distance + 1)
    return letters[distance] if distance < len(letters) else None


def _sons_of_same(cell, one, other, place):
    """The sons for the powers of one word with which both rests begin: less, equal, more."""
    word, mine = one[0]
    theirs = other[0][1]
    rest = one[1:]
    twin = other[1:]
    behind_mine = place + mine * len(word)
    behind_theirs = place + theirs * len(word)
    return (
        (cell.with_conditions(theirs - mine - 1), rest, ((word, theirs - mine), *twin), behind_mine, None),
        (cell.with_conditions(mine - theirs, theirs - mine), rest, twin, behind_mine, None),
        (cell.with_conditions(mine - theirs - 1), ((word, mine - theirs), *rest), twin, behind_theirs, None),
    )


def _apart(cell, one, other, place):
    """A node at which the first powers stand apart: each has few lengths with which it ends ahead of that place."""
    distance = _first_unlike_letter(one, other)
    lengths = _short_lengths(one, distance)
    ones = [(_at_length(cell, one, c), _with_length(one, c), other, place, None) for c in range(lengths)]
    longer = _longer_than(cell, one, lengths)
    lengths = _short_lengths(other, distance)
    others = [(_at_length(longer, other, c), one, _with_length(other, c), place, None) for c in range(lengths)]
    beyond = (_longer_than(longer, other, lengths), one, other, place, distance)
    return (("apart", distance), (ones, others, [beyond]), None)


def _first_unlike_letter(one, other):
    """The first place at which the fronts of two rests differ."""
    # Fronts differ ahead of the end of both together; otherwise one of the powers could have been moved.
    many = front_length(one) + front_length(other)
    return common_length(front_of(one, many), front_of(other, many))


def _short_lengths(items, distance):
    """How many numbers of words of the first power there are with which it ends at a distance or ahead of it."""
    at = power_position(items)
    ahead = sum([len(word) for word, _ in items[:at]])
    if at == len(items) or ahead > distance:
        return 0
    return (distance - ahead) // len(items[at][0]) + 1


def _at_length(cell, items, number):
    """The points of a cell at which the first power has just so many words."""
    form = items[power_position(items)][1]
    return cell.with_conditions(form - number, -form + number)


def _longer_than(cell, items, lengths):
    """The points of a cell at which the first power has at least so many words."""
    if lengths == 0:
        return cell
    return cell.with_conditions(items[power_position(items)][1] - lengths)


def _with_length(items, number):
    """The items with so many words as letters in place of the first power."""
    at = power_position(items)
    return items[:at] + ((items[at][0], number),) + items[at + 1:]
