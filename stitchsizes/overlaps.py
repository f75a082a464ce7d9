"""Rows of two patterns that have the same number: at which sizes of a stretch, and where first, they are unlike.

An OVERLAP is a tuple (stage, other, begin, end): the rows from begin up to, not including, end are worked by a stage
of one pattern and a stage of the other one. Its rows are taken in groups, so many that in both stages each text begins
anew with each group, and its sizes in turns, so that the first row of a group is the same row of the block at all of
them. Then each row of a group is a family, in which x tells the size and y the group.
"""

from math import gcd, lcm

from stitchsizes.cells import Cell
from stitchsizes.families import Family, parts_of_text, period_of
from stitchsizes.forms import Form
from stitchsizes.growing import grown
from stitchsizes.lines import line_gap, part_of_line
from stitchsizes.shadows import shadow
from stitchsizes.stretch import Stretch


def overlaps_of(stages, others, rows, stretch):
    """The list of the overlaps of two lists of stages up to a number of rows, which is a line and not 0."""
    ends = _ends_of(stages, rows, stretch)
    limits = _ends_of(others, rows, stretch)
    found = []
    begin = (0, 0)
    at = 0
    where = 0
    while at < len(ends) and where < len(limits):
        is_first = stretch.reaches(line_gap(limits[where], ends[at]))
        is_last = stretch.reaches(line_gap(ends[at], limits[where]))
        end = ends[at] if is_first else limits[where]
        found.append((stages[at], others[where], begin, end))
        begin = end
        at = at + (1 if is_first else 0)
        where = where + (1 if is_last else 0)
    return found


def parted_sizes(overlap, stretch):
    """The stretches of the sizes at which some row of an overlap is not the same in both patterns."""
    stage, other, begin, end = overlap
    turn = lcm(_turn_of(stage, line_gap(begin, stage.begin), stretch),
               _turn_of(other, line_gap(begin, other.begin), stretch))
    found = []
    for place in range(turn if stretch.last is None else min(turn, stretch.last + 1)):
        last = None if stretch.last is None else (stretch.last - place) // turn
        tracks = [Track(told, line_gap(begin, told.begin), place, turn, last == 0) for told in (stage, other)]
        rows = part_of_line(line_gap(end, begin), place, turn)
        if last == 0:
            rows = (rows[0], 0)
        for modulus, residue, first, most in _parted_places(tracks, rows, last):
            least = first + (residue - first) % modulus
            size = stretch.start + stretch.modulus * (place + turn * least)
            count = None if most is None else (most - least) // modulus
            # A modulus tells nothing of one size alone, and would only make that of the whole set greater.
            step = stretch.modulus if count == 0 else stretch.modulus * turn * modulus
            found.append(Stretch(size, step, count))
    return found


def first_unlike(overlap):
    """The first row of an overlap, at the first size of a stretch, that is not the same in both patterns: a tuple
    (row, place, name, name), or None."""
    stage, other, begin, end = overlap
    tracks = [Track(told, line_gap(begin, told.begin), 0, 1, True) for told in (stage, other)]
    rows = (end[0] - begin[0], 0)
    group, is_one = _group_of(tracks, rows)
    for row in range(min(group, rows[0])):
        unlike = _unlike_words(tracks, row)
        if unlike is not None:
            return (begin[0] + row, *unlike)
    found = []
    for row in range(0 if is_one else group):
        for cell, place, name, twin in _parted_leaves(tracks, row, group, _cell_of(row, rows, group, is_one, 0)):
            y = cell.least()[1]
            found.append((begin[0] + row + group * y, place.at(0, y), name, twin))
    # Each row lies in one leaf, so the numbers of the rows are unlike.
    return min(found) if found else None


class Track:
    """The rows of a stage from the first row of an overlap on, at each turn of sizes."""

    def __init__(self, stage, offset, place, turn, is_single):
        flat = 0 if is_single else turn
        self.stage = stage
        self.offset = part_of_line(offset, place, flat)
        self.lines = [[part_of_line(loops, place, flat) for loops in counts] for counts in stage.ahead]

    def row_text(self, row):
        """The row text of a row of a group."""
        return self.stage.row_texts[self._index_of(row)]

    def forms(self, row, group):
        """The loops ahead of a row of a group as forms, x being the turn, and y the group of so many rows."""
        index = self._index_of(row)
        many = len(self.stage.row_texts)
        ahead = (self.offset[0] + row) // many
        rise = self.offset[1] // many
        forms = []
        for (x, y), change in zip(self.lines[index], self.stage.changes[index]):
            forms.append(Form(y + change * rise, change * (group // many), x + change * ahead))
        return forms

    def rows_of_group(self):
        """How many rows it takes until each text begins anew."""
        rounds = 1
        for row, changes in zip(self.stage.row_texts, self.stage.changes):
            for text, change in zip(row.texts, changes):
                period = max(period_of(text), 1)
                rounds = lcm(rounds, period // gcd(period, change))
        return rounds * len(self.stage.row_texts)

    def _index_of(self, row):
        return (self.offset[0] + row) % len(self.stage.row_texts)


def _ends_of(stages, rows, stretch):
    """The numbers of the rows behind the stages, up to the number of rows."""
    ends = []
    for stage in stages[1:]:
        if stretch.reaches(line_gap(stage.begin, rows)):
            break
        ends.append(stage.begin)
    return ends + [rows]


def _turn_of(stage, offset, stretch):
    """Into how many parts the sizes are divided, so that the rows of a stage behind an offset are families."""
    if stretch.last == 0:
        return 1
    many = len(stage.row_texts)
    turn = many // gcd(offset[1], many)
    rise = offset[1] * turn // many
    further = 1
    for row, counts, changes in zip(stage.row_texts, stage.ahead, stage.changes):
        for text, loops, change in zip(row.texts, counts, changes):
            period = max(period_of(text), 1)
            further = lcm(further, period // gcd(loops[1] * turn + change * rise, period))
    return turn * further


def _group_of(tracks, rows):
    """How many rows a group has, and whether there is never more than one of them."""
    group = lcm(tracks[0].rows_of_group(), tracks[1].rows_of_group())
    if rows[1] == 0 and rows[0] <= group:
        return (rows[0], True)
    return (group, False)


def _cell_of(row, rows, group, is_one, last):
    """The cell of the points (turn, group) at which there is a row of the group."""
    conditions = [] if last is None else [Form(-1, 0, last)]
    if is_one:
        return Cell.flat(*conditions)
    conditions.append(Form(rows[1], -group, rows[0] - 1 - row))
    return Cell(*conditions)


def _parted_places(tracks, rows, last):
    """The stretches of the turns at which some row is unlike."""
    group, is_one = _group_of(tracks, rows)
    found = []
    for row in range(group):
        cell = _cell_of(row, rows, group, is_one, last)
        for leaf in _parted_leaves(tracks, row, group, cell):
            conditions = [(form.x, form.y, form.constant) for form in leaf[0].conditions()]
            found.extend(shadow(conditions))
        if (1, 0, 0, last) in found:
            break
    return found


def _parted_leaves(tracks, row, group, cell):
    """The leaves of the comparing tree of a row of the group in which both words part."""
    one, other = [(track.row_text(row), track.forms(row, group)) for track in tracks]
    if one == other or cell.is_empty:
        return []
    families = [_family_of(text, forms) for text, forms in (one, other)]
    if families[0].in_order() == families[1].in_order():
        return []
    return [leaf for leaf in grown(families[0], families[1], cell)[1] if leaf[1] is not None]


def _family_of(row, forms):
    parts = [part for text, loops in zip(row.texts, forms) for part in parts_of_text(text, loops)]
    return Family(row.book, parts)


def _unlike_words(tracks, row):
    """Where a row of the first group first differs, as a tuple (place, name, name), or None."""
    words = []
    for track in tracks:
        counts = [form.constant for form in track.forms(row, 0)]
        words.append(track.row_text(row).word(tuple(counts)))
    place = words[0].first_difference(words[1])
    if place is None:
        return None
    names = [word.letter(place) if place < word.length else None for word in words]
    return (place, names[0], names[1])
