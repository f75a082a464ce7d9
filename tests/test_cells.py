"""Cells: [32] and the interface of cells.py."""

import unittest
from math import gcd

from support import Case, FAR, drawn, no_count, only, values
from stitchsizes.cells import Cell
from stitchsizes.errors import InvalidCell, InvalidNumber, InvalidPoint
from stitchsizes.forms import Form

BIG = 10 ** 26 - 1


def cell(*conditions):
    return Cell(*[Form(*numbers) for numbers in conditions])


def drawn_conditions(chance, most, many):
    return [tuple(chance.randint(-most, most) for _ in range(2)) + (chance.randint(-3 * most, 3 * most),)
            for _ in range(chance.randint(0, many))]


def holds(conditions, x, y):
    return all(a * x + b * y + c >= 0 for a, b, c in conditions)


def small_points(conditions, many):
    return [(x, y) for x in range(many) for y in range(many) if holds(conditions, x, y)]


def height_by_trial(conditions, x):
    """The least y at x: between the greatest lower and the least upper bound, one condition after the other."""
    if not all(a * x + c >= 0 for a, b, c in conditions if b == 0):
        return None
    low = max([0] + [-((a * x + c) // b) for a, b, c in conditions if b > 0])
    high = [(a * x + c) // -b for a, b, c in conditions if b < 0]
    return low if not high or low <= min(high) else None


def least_by_trial(conditions, most):
    for x in range(most):
        y = height_by_trial(conditions, x)
        if y is not None:
            return (x, y)
    return None


def moved(conditions, dx, dy):
    """The same cell with its corner at (dx, dy)."""
    return [(1, 0, -dx), (0, 1, -dy)] + [(a, b, c - a * dx - b * dy) for a, b, c in conditions]


class TestConditions(Case):
    def test_made_tight(self):
        for given, kept in (
            ((2, 4, -3), (1, 2, -2)), ((-6, 0, 9), (-1, 0, 1)), ((0, -5, 14), (0, -1, 2)), ((0, 3, -1), (0, 1, -1)),
            ((-3, 6, 7), (-1, 2, 2)), ((4, -6, -1), (2, -3, -1)), ((3, 5, -7), (3, 5, -7)),
            ((-2, -2, -1), (-1, -1, -1)),
            ((10 * BIG, -20 * BIG, BIG), (1, -2, 0)),
        ):
            self.assertEqual(cell(given).conditions(), (Form(*kept),))

    def test_what_tells_nothing_is_left_out(self):
        for given in ((0, 0, 0), (0, 0, 7), (1, 0, 0), (0, 1, 0), (2, 3, 0), (5, 0, 9), (3, 3, 2)):
            self.assertEqual(cell(given), Cell())
            self.assertEqual(len(cell(given)), 0)
        self.assertEqual(len(cell((1, 1, -1))), 1)
        self.assertEqual(len(cell((1, -1, 0))), 1)
        self.assertEqual(len(cell((-1, 1, 5))), 1)

    def test_only_the_least_constant(self):
        self.assertEqual(cell((1, 0, -3), (2, 0, -9), (1, 0, 4), (1, 0, -4)).conditions(), (Form(1, 0, -5),))
        self.assertEqual(cell((-1, 1, 4), (-2, 2, 5)).conditions(), (Form(-1, 1, 2),))
        self.assertEqual(cell((-2, 2, 5), (-1, 1, 4)).conditions(), (Form(-1, 1, 2),))

    def test_numbers(self):
        self.assertEqual(cell((0, 0, -5)).conditions(), (Form(0, 0, -1),))
        self.assertEqual(cell((1, 0, -3), (0, 0, -1), (-1, 2, 3)).conditions(), (Form(0, 0, -1),))
        self.assertEqual(cell((0, 0, 3), (1, 0, -3)).conditions(), (Form(1, 0, -3),))

    def test_sorted(self):
        given = [(1, 0, -2), (-1, 5, 0), (-1, -1, 9), (0, -1, 3), (0, 1, -1), (-1, 4, 8)]
        wanted = tuple(Form(*numbers) for numbers in sorted(given))
        self.assertEqual(cell(*given).conditions(), wanted)
        self.assertEqual(cell(*given[::-1]).conditions(), wanted)
        self.assertIs(type(cell(*given).conditions()), tuple)

    def test_drawn(self):
        chance = drawn(51)
        for _ in range(500):
            given = drawn_conditions(chance, chance.choice([1, 2, 6, 40]), 7)
            tight = []
            for a, b, c in given:
                common = gcd(a, b)
                tight.append((a // common, b // common, c // common) if common else (a, b, c))
            if any(a == b == 0 and c < 0 for a, b, c in tight):
                tight = [(0, 0, -1)]
            least = [(a, b, c) for a, b, c in tight if c == min(d for e, f, d in tight if (e, f) == (a, b))]
            wanted = sorted({numbers for numbers in least if min(numbers) < 0})
            kept = cell(*given)
            self.assertEqual(kept.conditions(), tuple(Form(*numbers) for numbers in wanted))
            self.assertEqual(len(kept), len(wanted))
            self.assertEqual(Cell(*kept.conditions()), kept)

    def test_wrong_conditions(self):
        for value in [value for value in values() if not isinstance(value, Form)]:
            for call in (Cell, Cell.flat, Cell().with_conditions, cell((-1, 0, 3), (0, -1, 4)).with_conditions):
                self.fails(InvalidCell, {"position": 0}, call, value)
                self.fails(InvalidCell, {"position": 2}, call, Form(1), Form(), value, None)

    def test_flat(self):
        self.assertEqual(Cell.flat().conditions(), (Form(0, -1, 0),))
        flat = Cell.flat(Form(-1, 1, 3), Form(1, 0, -1))
        self.assertIs(type(flat), Cell)
        self.assertEqual(flat, cell((-1, 1, 3), (1, 0, -1), (0, -1, 0)))
        self.assertEqual(list(flat.points(9)), [(1, 0), (2, 0), (3, 0)])

    def test_with_conditions(self):
        first = cell((-1, 0, 5))
        second = first.with_conditions(Form(0, -1, 2), Form(-1, 0, 4))
        self.assertEqual(second, cell((-1, 0, 4), (0, -1, 2)))
        self.assertEqual(first, cell((-1, 0, 5)))
        self.assertEqual(first.with_conditions(), first)
        self.assertEqual(Cell.flat().with_conditions(Form(1, 0, -2)), Cell.flat(Form(1, 0, -2)))

    def test_equality(self):
        self.equal_only_to(cell((2, -2, 1), (-1, 0, 4)), cell((-1, 0, 4), (1, -1, 0), (1, 0, 0)))
        self.assertTrue(cell((1, 0, -2)) != cell((1, 0, -3)))
        self.assertFalse(cell((1, 0, -2)) == cell())
        # Both are empty, but do not keep the same conditions.
        self.assertTrue(cell((-1, 0, -1)) != cell((0, -1, -1)))
        self.assertTrue(cell((0, 0, -1)) == cell((0, 0, -9), (1, 0, -4)))

    def test_repr_and_len(self):
        self.assertEqual((repr(Cell()), len(Cell())), ("Cell()", 0))
        self.assertEqual(repr(cell((2, 0, -3), (-1, 0, 5))), "Cell(Form(-1, 0, 5), Form(1, 0, -2))")
        self.assertEqual((repr(cell((0, 0, -3))), len(cell((0, 0, -3)))), ("Cell(Form(0, 0, -1))", 1))


class TestPoints(Case):
    def test_in(self):
        small = cell((-1, -1, 3), (1, 0, -1))
        found = [point for point in small_points([], 5) if point in small]
        self.assertEqual(found, [(1, 0), (1, 1), (1, 2), (2, 0), (2, 1), (3, 0)])
        self.assertIs((1, 0) in small, True)
        self.assertIs((0, 0) in small, False)
        for value in ([1, 0], (1,), (1, 0, 0), (True, 0), (1, False), (1, -1), (-1, 0), (1, None), ("1", 0), ((1, 0),)):
            self.assertIs(value in small, False)
        anywhere = [value for value in values() if value in Cell()]
        self.assertEqual(anywhere, [(1, 2), (0, 0)])

    def test_points_are_counts(self):
        self.assertFalse((-1, 0) in Cell())
        self.assertFalse((0, -1) in Cell())
        self.assertEqual(cell((1, 0, 5), (0, 1, 5)).least(), (0, 0))
        self.assertTrue(cell((-1, 0, -1)).is_empty)

    def test_points_of_drawn_cells(self):
        chance = drawn(52)
        for _ in range(400):
            given = drawn_conditions(chance, chance.choice([1, 2, 5, 20]), 5)
            many = chance.randint(0, 14)
            found = list(cell(*given).points(many))
            self.assertEqual(found, small_points(given, many))
            for point in small_points([], 8):
                self.assertIs(point in cell(*given), holds(given, *point))

    def test_points_edges(self):
        self.assertEqual(list(Cell().points(0)), [])
        self.assertEqual(list(Cell().points(many=2)), [(0, 0), (0, 1), (1, 0), (1, 1)])
        self.assertEqual(list(cell((1, 0, -3)).points(3)), [])
        self.assertEqual(list(cell((1, 0, -3), (0, 1, -3)).points(4)), [(3, 3)])
        self.assertEqual(list(cell((0, 0, -1)).points(9)), [])
        self.assertIs(type(next(iter(Cell().points(1)))), tuple)

    def test_points_far_away(self):
        far = cell((1, 0, -BIG), (-1, 0, BIG + 1), (-1, 1, 0), (1, -1, 1))
        wanted = [(BIG, BIG), (BIG, BIG + 1), (BIG + 1, BIG + 1), (BIG + 1, BIG + 2)]
        self.assertEqual(list(far.points(FAR)), wanted)
        self.assertEqual(list(far.points(BIG + 2)), wanted[:3])
        self.assertEqual(list(far.points(BIG + 1)), wanted[:1])
        self.assertEqual(list(far.points(BIG)), [])
        # Points with gaps between: 3y = BIG x.
        line = cell((-BIG - 1, 3, 0), (BIG + 1, -3, 0))
        several = iter(line.points(FAR))
        self.assertEqual([next(several) for _ in range(3)], [(0, 0), (3, BIG + 1), (6, 2 * BIG + 2)])

    def test_wrong_many(self):
        wrong = only(no_count)
        self.all_fail(InvalidNumber, "value", wrong, lambda value: list(Cell().points(value)))

    def test_least_at(self):
        chance = drawn(53)
        for _ in range(600):
            given = drawn_conditions(chance, chance.choice([1, 3, 9]), 5)
            for x in range(12):
                heights = [y for y in range(150) if holds(given, x, y)]
                self.assertEqual(cell(*given).least_at(x), heights[0] if heights else None)
        self.assertEqual(cell((-1, 3, -1)).least_at(x=BIG), (BIG + 1 + 2) // 3)
        self.assertIsNone(cell((-1, 0, 4)).least_at(5))
        self.assertEqual(cell((-1, 0, 4)).least_at(4), 0)
        self.assertIsNone(cell((-1, 2, 0), (1, -2, 0)).least_at(BIG))
        self.assertEqual(cell((-1, 2, 0), (1, -2, 0)).least_at(BIG + 1), (BIG + 1) // 2)
        self.all_fail(InvalidPoint, "value", only(no_count), Cell().least_at)


class TestLeast(Case):
    def check(self, conditions, wanted):
        found = cell(*conditions)
        self.assertEqual(found.least(), wanted, conditions)
        self.assertIs(found.is_empty, wanted is None)
        if wanted is not None:
            self.assertIn(wanted, found)
            self.assertIs(type(found.least()), tuple)
            self.assertEqual(found.least_at(wanted[0]), wanted[1])

    def test_is_fixed(self):
        self.is_fixed(Cell(), "is_empty")

    def test_all_small_points(self):
        chance = drawn(54)
        empty = 0
        for _ in range(1500):
            given = drawn_conditions(chance, chance.choice([1, 2, 4, 6]), 6)
            wanted = least_by_trial(given, 400)
            self.check(given, wanted)
            empty += wanted is None
        self.assertTrue(250 < empty < 1250)

    def test_thin_cells_by_trial(self):
        chance = drawn(55)
        found = 0
        for _ in range(300):
            b, d = chance.randint(5, 60), chance.randint(5, 60)
            a = chance.randint(-60, 90)
            c = a * d // b + chance.randint(-1, 2)
            given = [(-a, b, -chance.randint(0, 300)), (c, -d, chance.randint(0, 300)), (1, 0, -chance.randint(0, 30))]
            wanted = self.check_by_trial(given, 4000)
            found += wanted is not None and wanted[0] > 31
        self.assertGreater(found, 10)

    def test_cells_of_many_conditions(self):
        chance = drawn(56)
        for _ in range(60):
            given = drawn_conditions(chance, 30, 60)
            self.check(given, least_by_trial(given, 3000))

    def check_by_trial(self, given, most):
        """The least point by trial; one that lies beyond the trial must be a point. Tells where it is."""
        wanted = least_by_trial(given, most)
        told = cell(*given).least()
        if wanted is None and told is not None:
            self.assertGreaterEqual(told[0], most)
            self.assertTrue(holds(given, *told))
            wanted = told
        self.check(given, wanted)
        return wanted

    def test_several_lines_in_turn(self):
        # Some lines below and some above, which rise or fall: the bounds of y change from x to x.
        chance = drawn(61)
        late = 0
        for _ in range(6000):
            most = chance.choice([5, 12, 40])
            given = []
            for sign, far in ((-1, 5), (1, 8)):
                for _ in range(chance.randint(2, 4)):
                    a, b = chance.randint(-most // 2, 2 * most), chance.randint(2, most)
                    given.append((sign * a, -sign * b, chance.randint(-5 * most, far * most)))
            wanted = self.check_by_trial(given, 300)
            if wanted and wanted[0] > 0:
                # Real points alone, without a count between, lie ahead of the least point.
                x, above = wanted[0] - 1, [numbers for numbers in given if numbers[1] < 0]
                below = [numbers for numbers in given if numbers[1] > 0] + [(0, 1, 0)]
                late += all((a * x + c) * -f + (d * x + e) * b >= 0 for a, b, c in below for d, f, e in above)
        self.assertGreater(late, 100)

    def test_parallel_lines(self):
        for b in range(1, 12):
            for a in range(-b, 2 * b):
                for low in (0, -1, 3 * b + 1):
                    for high in (0, 1, 2):
                        for first in (0, 1, 5):
                            given = [(-a, b, low), (a, -b, high - low), (1, 0, -first)]
                            self.check(given, least_by_trial(given, 40))

    def test_lenses(self):
        # Tangents of a bowl and of a lid that is turned over it: many pieces, and few points between.
        chance = drawn(62)
        found = 0
        for _ in range(400):
            width, height = chance.randint(5, 40), chance.randint(1, 3)
            scale = chance.randint(7, 30)
            at = chance.randint(0, 60)
            slopes = sorted(chance.sample(range(-width, width + 1), chance.randint(3, 8)))
            lift = chance.randint(0, 40 * scale)
            bowl = [(-slope, scale, slope * at + slope * slope // 4 - lift) for slope in slopes]
            lid = [(-slope, -scale, slope * at - slope * slope // 4 + lift + height * scale) for slope in slopes]
            wanted = self.check_by_trial(bowl + lid, 400)
            found += wanted is not None and wanted[0] > 1
        self.assertGreater(found, 50)

    def test_edges(self):
        self.check([], (0, 0))
        self.check([(0, 0, -1)], None)
        self.check([(1, 0, -4), (-1, 0, 4), (0, 1, -5), (0, -1, 5)], (4, 5))
        self.check([(1, 0, -4), (-1, 0, 3)], None)
        self.check([(1, 0, -4), (0, -1, -1)], None)
        self.check([(2, -2, 1), (-2, 2, -1)], None)
        self.check([(2, -3, 1), (-2, 3, 0)], (0, 0))
        self.check([(3, -3, 2), (-3, 3, -1)], None)
        self.check([(-1, -1, -1)], None)
        self.check([(1, 1, -5)], (0, 5))
        self.check([(1, 1, -5), (0, -1, 2)], (3, 2))
        self.check([(1, -1, 0), (0, 1, -7)], (7, 7))
        self.check([(-1, 1, -3)], (0, 3))

    def test_real_points_alone_do_not_count(self):
        # 3y - 2x = 1 and y between two near lines: there are real points, but no counts.
        self.check([(-2, 3, -1), (2, -3, 1), (1, 0, -2), (-1, 0, 3)], None)
        self.check([(-2, 3, -1), (2, -3, 1), (1, 0, -2), (-1, 0, 4)], (4, 3))
        self.check([(0, 3, -1), (0, -3, 2)], None)
        self.check([(3, 0, -1), (-3, 0, 2)], None)
        self.check([(-7, 3, -1), (7, -3, 2), (-1, 0, 0)], None)

    def test_moved_cells(self):
        chance = drawn(57)
        for _ in range(500):
            given = drawn_conditions(chance, 5, 5)
            wanted = least_by_trial(given, 400)
            dx, dy = chance.randrange(BIG), chance.randrange(BIG)
            self.check(moved(given, dx, dy), wanted and (wanted[0] + dx, wanted[1] + dy))

    def test_residues_of_great_numbers(self):
        chance = drawn(58)
        for _ in range(150):
            divisor = chance.randrange(2, BIG)
            factor, rest = chance.randrange(divisor), chance.randrange(divisor)
            if gcd(factor, divisor) > 1:
                continue
            # factor * x + rest = divisor * y: x is a residue.
            x = -rest * pow(factor, -1, divisor) % divisor
            line = [(factor, -divisor, rest), (-factor, divisor, -rest)]
            self.check(line, (x, (factor * x + rest) // divisor))
            self.check(line + [(-1, 0, x)], (x, (factor * x + rest) // divisor))
            self.check(line + [(-1, 0, x - 1)], None)
            self.check(line + [(1, 0, -x - 1)], (x + divisor, (factor * x + rest) // divisor + factor))

    def test_wedges_between_neighbours(self):
        chance = drawn(59)
        for _ in range(150):
            # p / q < r / s are neighbours, so the first point inside is (q + s, p + r).
            p, q, r, s = 0, 1, 1, 0
            while max(q, s, p, r) < 10 ** 24:
                times = chance.randint(1, 9)
                if chance.random() < 0.5:
                    p, q = p + times * r, q + times * s
                else:
                    r, s = r + times * p, s + times * q
            self.assertEqual(r * q - p * s, 1)
            wedge = [(-p, q, -1), (r, -s, -1)]
            self.check(wedge, (q + s, p + r))
            self.check(wedge + [(-1, 0, q + s - 1)], None)
            # The points inside are sums of (q, p) and (s, r), each at least once.
            self.assertTrue(q > 0 and s > 0)
            self.check(wedge + [(1, 0, -q - s - 1)], min((2 * q + s, 2 * p + r), (q + 2 * s, p + 2 * r)))

    def test_corners_far_away(self):
        chance = drawn(60)
        for _ in range(200):
            x, y = chance.randrange(1, BIG), chance.randrange(1, BIG)
            a, b = chance.randrange(1, 10 ** 13), chance.randrange(1, 10 ** 13)
            c, d = chance.randrange(1, 10 ** 13), chance.randrange(1, 10 ** 13)
            if a * d == b * c:
                continue
            # Two lines that rise cross at (x, y), and no point lies between them further to the left.
            low, high = ((a, b), (c, d)) if a * d > b * c else ((c, d), (a, b))
            corner = [(low[0], -low[1], low[1] * y - low[0] * x), (-high[0], high[1], high[0] * x - high[1] * y)]
            self.check(corner + [(1, 0, -x)], (x, y))
            # To the left of x what is above a falling line is not below a rising one.
            self.check([(c, d, -c * x - d * y), (a, -b, b * y - a * x)], (x, y))


if __name__ == "__main__":
    unittest.main()
