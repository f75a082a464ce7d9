"""Pieces of sizes and weights: [61], [62], [63], TO ITS END, FAR, and the interface of pieces.py."""

import unittest
from fractions import Fraction

from knitter import Knitter, drawn_pattern
from support import Case, FAR, USUAL, drawn, no_count, no_pattern, only
from stitchsizes.errors import InvalidNumber, InvalidPattern, TooMany
from stitchsizes.patterns import Cut, Merge, Pattern, Repeat, Times, Until
from stitchsizes.pieces import (
    Piece, first_trouble, pieces, sizes_endless, sizes_failing, sizes_through, weight_of,
)
from stitchsizes.rows import RowText
from stitchsizes.sections import Evenly, Kept, Rested
from stitchsizes.sizes import Sizes
from stitchsizes.working import outcome_at

BIG = 10 ** 25
LIMITED = (pieces, sizes_through, sizes_failing, sizes_endless, first_trouble)


def rested(before, repeated, after=""):
    return Rested(USUAL, *[tuple(words.split()) for words in (before, repeated, after)])


PLAIN = rested("", "k")
ROW = RowText(PLAIN)
LESS = RowText(rested("ktog", "k", "ssk"))
MORE = RowText(rested("k yo", "k", "yo k"))
EVERY = Sizes.whole()
NONE = Sizes()


def pattern(cast_on, *steps, way="round"):
    return Pattern(USUAL, way, [cast_on] if isinstance(cast_on[0], int) else cast_on, steps)


def is_in(piece, size):
    """Whether a size is one of the stretch of a piece, as [61] has it."""
    if size < piece.first or piece.last is not None and size > piece.last:
        return False
    return size % piece.modulus == piece.residue


def taking(many):
    """A word that takes so many loops and makes as many."""
    return " ".join(["k"] * many)


def own_weight(told):
    """The weight, counted by [63]."""
    weight = 1
    for step in told.steps:
        if isinstance(step, (Cut, Merge)):
            continue
        factors = []
        for row in step.block:
            for text in row.texts:
                if isinstance(text, Evenly):
                    factors.append(text.times + 1)
                elif isinstance(text, Kept):
                    factors.append(len(text.repeated))
                else:
                    factors.append(sum(USUAL.kind(name).takes for name in text.repeated))
        times = 1
        if isinstance(step, Repeat):
            columns = zip(*[row.texts for row in step.block])
            if any(product([slope(text) for text in column]) != 1 for column in columns):
                times = step.times
        for factor in factors * times:
            weight *= factor or 1
        if isinstance(step, Until):
            weight *= changed([row.texts[step.section] for row in step.block]) or 1
    return weight


def product(numbers):
    whole = Fraction(1)
    for number in numbers:
        whole *= number
    return whole


def slope(text):
    if not isinstance(text, Rested) or not text.repeated:
        return Fraction(1)
    return Fraction(USUAL.made(text.repeated), USUAL.taken(text.repeated))


def changed(texts):
    """By how much the least count that fits all texts is changed by them; 0 if there is none up to 2000."""
    for count in range(2000):
        loops = count
        for text in texts:
            loops = text.made(loops) if loops is not None and text.fits(loops) else None
        if loops is not None:
            return abs(loops - count)
    return 0


class TestExamples(Case):
    def check(self, told, through, failing=NONE, endless=NONE):
        self.assertEqual((sizes_through(told), sizes_failing(told), sizes_endless(told)), (through, failing, endless))
        size = (failing | endless).least()
        self.assertEqual(first_trouble(told), None if size is None else (size, outcome_at(told, size)))

    def test_hat(self):
        hat = pattern((20, 4), Until([LESS, ROW], 0, "at most", 8))
        self.check(hat, EVERY)
        self.assertIsNone(first_trouble(hat))
        for size in (0, 1, 7, BIG, FAR):
            found = [piece for piece in pieces(hat) if is_in(piece, size)]
            self.assertEqual([piece.outcome_at(size) for piece in found], [("through", 12 + 4 * size, (8,))])
        odd = pattern((20, 4), Until([LESS, ROW], 0, "just", 7))
        self.check(odd, NONE, EVERY)
        self.assertEqual(first_trouble(odd), (0, ("fails", 18, 0, 9, 0, 0, 2)))

    def test_sets(self):
        self.check(pattern((20, 3), Until([LESS], 0, "just", 8)), Sizes((2, 0, 0, None)), Sizes((2, 1, 0, None)))
        self.check(pattern((20, 3), Until([MORE], 0, "just", 50)), Sizes((2, 0, 0, 10)), NONE,
                   Sizes((2, 1, 0, None), (1, 0, 11, None)))
        self.check(pattern((5, 1), Until([ROW], 0, "just", 9)), Sizes.of(4), NONE, Sizes.of(4).without())
        self.check(pattern((5, 1), Until([ROW], 0, "at least", 9)), Sizes((1, 0, 4, None)), NONE, Sizes((1, 0, 0, 3)))
        self.check(pattern((0, 1), Repeat([RowText(rested("k", "k k k", "k"))], 2)), Sizes((3, 2, 2, None)),
                   Sizes((3, 2, 2, None)).without())
        self.check(pattern((0, 1), Repeat([RowText(rested("k k k k k", ""))], 2)), Sizes.of(5), Sizes.of(5).without())
        self.check(pattern((0, 1), Repeat([RowText(rested("", "ktog"))], 3)), Sizes((8, 0, 0, None)),
                   Sizes((8, 0, 0, None)).without())
        self.check(pattern((0, 1), Repeat([RowText(rested("k k", "ktog"))], 0)), EVERY)
        self.check(pattern((0, 1), Cut(0, "left", 7), Cut(0, "right", 4)), Sizes((1, 0, 11, None)), Sizes((1, 0, 0, 10)))
        self.check(pattern((FAR, 0), Cut(0, "left", FAR)), EVERY)
        self.check(pattern((FAR - 1, 0), Cut(0, "left", FAR)), NONE, EVERY)

    def test_edges(self):
        self.check(pattern((0, 0)), EVERY)
        self.check(pattern([(1, 2)] * 6, *[Merge(0)] * 5), EVERY)
        self.check(pattern((3, 0), Repeat([LESS], 0), Times([LESS], 0, 0), Times([LESS], -9, 0)), EVERY)
        # An UNTIL that ends at once, is jumped over, never ends, or fails first.
        self.check(pattern((3, 0), Until([LESS], 0, "at most", 3)), EVERY)
        self.check(pattern((5, 0), Until([MORE], 0, "just", 6)), NONE, NONE, EVERY)
        self.check(pattern((5, 0), Until([LESS], 0, "just", 4)), NONE, EVERY)
        self.check(pattern((5, 0), Until([MORE], 0, "at most", 4)), NONE, NONE, EVERY)
        two = [RowText(rested("yo", "k"), rested("ktog", "k"))]
        self.check(pattern([(0, 1), (5, 0)], Until(two, 0, "at least", 30)), Sizes((1, 0, 26, None)), Sizes((1, 0, 0, 25)))

    def test_far(self):
        self.check(pattern((BIG, 0), Times([RowText(rested("ktog", "k"))], 0, 1)), Sizes((1, 0, 0, BIG - 1)),
                   Sizes((1, 0, BIG, None)))
        self.check(pattern((7, 0), Times([LESS], -BIG, 1)), Sizes((1, 0, 0, BIG + 2)), Sizes((1, 0, BIG + 3, None)))
        self.check(pattern((0, BIG), Until([LESS], 0, "at most", BIG ** 2)), Sizes((1, 0, 0, None)))
        self.check(pattern((0, BIG), Until([ROW], 0, "just", 3 * BIG)), Sizes.of(3), NONE, Sizes.of(3).without())
        # The loops are used up one size later than the rounds.
        meeting = pattern((BIG, 1), Times([RowText(rested("ktog", "k"))], 0, 2))
        self.check(meeting, Sizes((1, 0, 0, BIG - 1)), Sizes((1, 0, BIG, None)))
        self.assertEqual(first_trouble(meeting), (BIG, ("fails", 2 * BIG - 1, 0, 2 * BIG - 1, 0, 0, 1)))

    def test_which_place_fails(self):
        """The first row and section that lack loops change from size to size."""
        both = [RowText(rested("ktog", "k"), rested("ktog ktog ktog", "k")), RowText(PLAIN, rested("k k k k k", "k"))]
        told = pattern([(3, 2), (5, 7)], Times(both, 9 * BIG, 0))
        seen = set()
        for size in [*range(60), BIG, BIG + 1, BIG + 2, BIG + 3]:
            found = [piece for piece in pieces(told) if is_in(piece, size)]
            self.assertEqual(len(found), 1)
            self.assertEqual(found[0].outcome_at(size), outcome_at(told, size))
            seen.add(outcome_at(told, size)[4:6])
        self.assertEqual(seen, {(0, 0), (0, 1), (1, 1)})

    def test_great_blocks(self):
        block = [*[RowText(rested("ktog", "k"))] * 239, RowText(rested("k", "k"))]
        told = pattern((3, 1), Times(block, BIG, 0))
        found = pieces(told)
        self.assertEqual(sizes_failing(told), Sizes((1, 0, 0, 239 * BIG - 3)))
        for size in (0, 1, 238, 239, 240, 1000, BIG, BIG + 17):
            self.assertEqual([piece.outcome_at(size) for piece in found if is_in(piece, size)], [outcome_at(told, size)])


class TestPieces(Case):
    def test_properties(self):
        told = pattern((20, 3), Until([LESS], 0, "just", 8))
        found = pieces(told)
        self.assertIs(type(found), list)
        for piece in found:
            self.assertIs(type(piece), Piece)
            self.is_fixed(piece, "modulus", "residue", "first", "last", "start", "outcome")
            self.assertEqual(Sizes((piece.modulus, piece.residue, piece.first, piece.last)).least(), piece.start)
            self.assertIn(piece.outcome[0], ("through", "fails"))
        self.assertEqual(pieces(told), found)
        self.equal_only_to(found[0], pieces(told)[0])
        self.assertFalse(found[0] == pieces(pattern((20, 3)))[0])

    def assert_lines(self, outcome):
        """The numbers of the outcome of a piece are lines [62]."""
        if outcome[0] == "endless":
            self.assertEqual(len(outcome), 2)
            return
        lines = [outcome[1], *outcome[2]] if outcome[0] == "through" else [outcome[1], outcome[3], outcome[6]]
        for line in lines:
            self.assertIs(type(line), tuple)
            self.assertEqual([type(number) for number in line], [int, int])
        self.assertEqual(len(outcome), 3 if outcome[0] == "through" else 7)
        if outcome[0] == "fails":
            self.assertEqual([type(outcome[place]) for place in (2, 4, 5)], [int] * 3)

    def test_wrong_sizes(self):
        told = pattern((20, 3), Until([LESS], 0, "just", 8), Times([ROW], -30, 1))
        for piece in pieces(told):
            self.all_fail(InvalidNumber, "value", only(no_count), piece.outcome_at)
            for size in [*range(70), BIG, BIG + 1]:
                if is_in(piece, size):
                    self.assertEqual(piece.outcome_at(size=size), outcome_at(told, size))
                else:
                    self.fails(InvalidNumber, {"value": size}, piece.outcome_at, size)

    def test_drawn(self):
        """Each size is in just one piece, which tells what a knitter comes to."""
        chance = drawn(161)
        seen = {"through": 0, "fails": 0, "endless": 0, "flat": 0, "modulus": 0}
        for _ in range(700):
            told = drawn_pattern(chance, 4)
            if own_weight(told) > 360:
                continue
            found = pieces(told)
            sets = {"through": sizes_through(told), "fails": sizes_failing(told), "endless": sizes_endless(told)}
            for piece in found:
                self.assert_lines(piece.outcome)
            seen["flat"] += told.way != "round"
            seen["modulus"] += max(piece.modulus for piece in found) > 1
            sizes = [*range(9), chance.randint(9, 40), chance.randint(0, BIG), chance.randint(0, BIG), FAR]
            for size in sizes:
                outcome = Knitter(told, size).outcome if size < 9 else outcome_at(told, size)
                self.assertEqual([piece.outcome_at(size) for piece in found if is_in(piece, size)], [outcome])
                self.assertEqual([word for word in sets if size in sets[word]], [outcome[0]])
                seen[outcome[0]] += 1
            self.assert_least_trouble(told, sets)
        self.assertGreater(min(seen.values()), 50)

    def assert_least_trouble(self, told, sets):
        self.assertEqual(sets["through"] | sets["fails"] | sets["endless"], EVERY)
        trouble = first_trouble(told)
        if trouble is None:
            self.assertEqual(sets["through"], EVERY)
            return
        size, outcome = trouble
        self.assertEqual(outcome, outcome_at(told, size))
        self.assertEqual(sets["through"].without().least(), size)
        self.assertTrue(all(outcome_at(told, before)[0] == "through" for before in range(min(size, 30))))

    def test_stretches_of_sizes(self):
        """The pieces are stretches of counts, and together all counts."""
        chance = drawn(162)
        for _ in range(200):
            told = drawn_pattern(chance, 5)
            if own_weight(told) > 360:
                continue
            left = EVERY
            for piece in pieces(told):
                sizes = Sizes((piece.modulus, piece.residue, piece.first, piece.last))
                self.assertEqual(sizes - left, NONE)
                self.assertEqual(sizes.least(), piece.start)
                left = left - sizes
            self.assertEqual(left, NONE)


class TestWeights(Case):
    def heavy(self, *steps):
        """A pattern with REPEAT blocks of texts whose counts have these steps."""
        return pattern((9, 9), *[Repeat([RowText(rested("", taking(step)))], 1) for step in steps])

    def test_told(self):
        kept = RowText(Kept(USUAL, (), ("k", "p", "p"), ()))
        even = RowText(Evenly(USUAL, ("yo",), 4, "k"))
        double, half = RowText(rested("", "kfb")), RowText(rested("", "ktog"))
        for steps, weight in (
            ([], 1), ([Cut(0, "left", 1), Merge(0)], 1), ([Repeat([ROW], 60)], 1), ([Repeat([kept], 0)], 3),
            ([Repeat([kept], 9), Times([kept, kept], -1, 0)], 27), ([Repeat([even], 2)], 5), ([Repeat([even], 0)], 5),
            ([Repeat([double], 5)], 1), ([Repeat([half], 5)], 32), ([Repeat([half], 0)], 1), ([Repeat([half, kept], 2)], 36),
            ([Repeat([half, double], 5)], 2), ([Times([half, double], 5, 0)], 2), ([Repeat([half, even], 0)], 1),
            ([Repeat([RowText(rested("k k k k", ""))], 3)], 1), ([Until([ROW], 0, "just", 1)], 1),
            ([Until([LESS], 0, "just", 1)], 2), ([Until([LESS, LESS, MORE], 0, "at most", 1)], 2),
            ([Until([LESS, MORE], 0, "at most", 1)], 1), ([Times([LESS], 1, 1)], 1),
            ([Until([RowText(rested("ktog", "k k k")), kept], 0, "just", 1)], 9),
            ([Until([RowText(rested("", "k k")), RowText(rested("k", "k k"))], 0, "just", 1)], 4),
            ([Until([RowText(rested("k k", "")), RowText(rested("k k k", ""))], 0, "just", 1)], 1),
            ([Until([RowText(rested("yo k yo", ""))], 0, "just", 1)], 2),
            ([Until([RowText(rested("yo", "ktog kfb k"))], 0, "just", 1)], 4),
        ):
            self.assertEqual(weight_of(pattern((5, 5), *steps)), weight)
            self.assertEqual(own_weight(pattern((5, 5), *steps)), weight)
        sections = pattern([(1, 1)] * 2, Repeat([RowText(rested("", "ktog"), rested("", "k k k"))], 2))
        self.assertEqual(weight_of(pattern=sections), 36)
        other = pattern([(1, 1)] * 2, Until([RowText(rested("ktog ktog", "k"), rested("yo yo yo", "k"))], 1, "just", 0))
        self.assertEqual(weight_of(other), 3)

    def test_drawn(self):
        chance = drawn(163)
        weights = []
        for _ in range(800):
            told = drawn_pattern(chance, 4)
            weights.append(weight_of(told))
            self.assertEqual(weights[-1], own_weight(told))
        self.assertGreater(len(set(weights)), 40)

    def test_limit(self):
        at_most = self.heavy(8, 9, 5)
        self.assertEqual(weight_of(at_most), 360)
        for call in LIMITED:
            call(at_most)
        self.assertEqual(sizes_through(at_most), Sizes((40, 39, 0, None)))
        for told, weight in ((self.heavy(19, 19), 361), (self.heavy(*[60] * 20), 60 ** 20)):
            self.assertEqual(weight_of(told), weight)
            for call in LIMITED:
                self.fails(TooMany, {"what": "weight", "limit": 360}, call, told)

    def test_wrong_patterns(self):
        for call in (*LIMITED, weight_of):
            self.all_fail(InvalidPattern, "value", only(no_pattern), call)
            call(pattern=pattern((1, 1)))


if __name__ == "__main__":
    unittest.main()
