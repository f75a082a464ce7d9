"""Cells: the points at which some forms are at least 0."""

from stitchsizes.checks import is_count
from stitchsizes.errors import InvalidCell, InvalidNumber, InvalidPoint
from stitchsizes.forms import Form
from stitchsizes.plane import has_point, is_point_within, least_height, least_point, tight


class Cell:
    """The points, tuples of counts, at which all conditions hold."""

    def __init__(self, *conditions):
        for position, condition in enumerate(conditions):
            if not isinstance(condition, Form):
                raise InvalidCell(position)
        self._kept = tight([(form.x, form.y, form.constant) for form in conditions])

    @classmethod
    def flat(cls, *conditions):
        """The cell with the further condition that y is 0."""
        further = [*conditions, Form(0, -1)]
        return cls(*further)

    def conditions(self):
        """The tuple of the conditions that the cell keeps."""
        return tuple([Form(a, b, c) for a, b, c in self._kept])

    @property
    def is_empty(self):
        """Whether the cell has no points."""
        return not has_point(self._kept)

    def least(self):
        """The least point, or None."""
        return least_point(self._kept)

    def least_at(self, x):
        """The least y of a point with this x, or None."""
        if not is_count(x):
            raise InvalidPoint(x)
        return least_height(self._kept, x)

    def with_conditions(self, *conditions):
        """The cell with further conditions."""
        for position, condition in enumerate(conditions):
            if not isinstance(condition, Form):
                raise InvalidCell(position)
        together = [*self.conditions(), *conditions]
        return Cell(*together)

    def points(self, many):
        """The points with x and y below many, ascending."""
        if not is_count(many):
            raise InvalidNumber(many)
        box = self.with_conditions(Form(-1, 0, many - 1), Form(0, -1, many - 1))
        point = box.least()
        while point is not None:
            x, y = point
            while y < many and is_point_within(self._kept, x, y):
                yield (x, y)
                y = y + 1
            point = box.with_conditions(Form(1, 0, -x - 1)).least()

    def __contains__(self, x):
        if not isinstance(x, tuple) or len(x) != 2 or not is_count(x[0]) or not is_count(x[1]):
            return False
        return is_point_within(self._kept, x[0], x[1])

    def __len__(self):
        return len(self._kept)

    def __eq__(self, other):
        return isinstance(other, Cell) and self._kept == other._kept

    def __repr__(self):
        words = [repr(form) for form in self.conditions()]
        return f"Cell({', '.join(words)})"
