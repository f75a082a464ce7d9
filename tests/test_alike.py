"""Patterns compared at all sizes: [81], [82], SAME FABRIC, FAR, and the interface of alike.py; and shadows."""

import unittest

from knitter import Knitter, drawn_pattern
from pairs import beside, drawn_pair, late_pair
from support import Case, FAR, OTHER_BOOK, USUAL, drawn, no_count, no_pattern, only
from stitchsizes.alike import Beside, are_alike, resized
from stitchsizes.errors import InvalidNumber, InvalidPattern, TooMany
from stitchsizes.kinds import Book
from stitchsizes.patterns import Cut, Merge, Pattern, Repeat, Times, Until
from stitchsizes.pieces import sizes_through, weight_of
from stitchsizes.plane import least_height, tight
from stitchsizes.rows import RowText
from stitchsizes.sections import Evenly, Kept, Rested
from stitchsizes.shadows import shadow
from stitchsizes.sizes import Sizes
from stitchsizes.working import Work, outcome_at

BIG = 10 ** 25
EVERY = Sizes.whole()
NONE = Sizes()


def rested(before, repeated, after=""):
    return Rested(USUAL, *[tuple(words.split()) for words in (before, repeated, after)])


def kept(before, repeated, after="", shift=0):
    return Kept(USUAL, *[tuple(words.split()) for words in (before, repeated, after)], shift=shift)


PLAIN = rested("", "k")
ROW = RowText(PLAIN)
PURL = RowText(rested("", "p"))
LESS = RowText(rested("ktog", "k", "ssk"))


def pattern(cast_on, *steps, way="round"):
    return Pattern(USUAL, way, [cast_on] if isinstance(cast_on[0], int) else cast_on, steps)


class TestTold(Case):
    def check(self, one, other, parted, least, neither=NONE, only_one=NONE, only_other=NONE):
        both = Beside(one, other)
        self.assertEqual((both.parted, both.neither), (parted, neither))
        self.assertEqual((both.only_one, both.only_other), (only_one, only_other))
        self.assertEqual(both.alike, (parted | neither).without())
        self.assertEqual((both.least(), both.is_alike), (least, not parted))
        self.assertEqual(are_alike(one, other), not parted)
        self.assertEqual(are_alike(other, one), not parted)
        return both

    def test_example(self):
        block = [LESS, ROW]
        hat = pattern((20, 4), Until(block, 0, "at most", 8))
        self.check(hat, pattern((20, 4), Times(block, 6, 2)), NONE, None)
        self.check(hat, pattern((20, 4), Times(block, 5, 2)), EVERY, (0, ("lacks", 10, 2)))
        longer = self.check(pattern((20, 4), Times(block, 5, 2)), hat, EVERY, (0, ("lacks", 10, 1)))
        self.assertEqual(longer.parting(BIG), ("lacks", 10 + 4 * BIG, 1))
        self.assertIsNone(longer.alike_from())

    def test_no_steps(self):
        self.check(pattern((3, 1)), pattern((3, 1)), NONE, None)
        self.check(pattern((3, 1)), pattern([(1, 0), (2, 1)], Merge(0)), NONE, None)
        self.check(pattern((3, 1)), pattern((4, 1)), EVERY, (0, ("cast on", 3, 4)))
        both = self.check(pattern((BIG, 1)), pattern((0, 2)), Sizes.of(BIG).without(), (0, ("cast on", BIG, 0)))
        self.assertEqual(both.parting(BIG - 1), ("cast on", 2 * BIG - 1, 2 * BIG - 2))
        self.assertIsNone(both.parting(BIG))

    def test_ways_and_sections_play_no_part(self):
        self.check(pattern((3, 1), Repeat([PURL], 2), way="right"), pattern((3, 1), Repeat([PURL], 2), way="wrong"), NONE,
                   None)
        whole = pattern((9, 2), Repeat([ROW], 3))
        parts = pattern([(4, 0), (5, 2)], Repeat([RowText(PLAIN, PLAIN)], 1), Cut(1, "left", 2),
                        Repeat([RowText(PLAIN, kept("", "k k"), rested("k", "", "k"))], 2))
        self.check(whole, parts, NONE, None)

    def test_first_partings(self):
        """What holds for the first row for which something holds, and for it the first of the list."""
        rows = pattern((4, 1), Repeat([ROW], 2))
        self.check(rows, pattern((4, 1), Repeat([ROW, PURL], 1)), EVERY, (0, ("stitch", 1, 0, "k", "p")))
        end = pattern((4, 1), Repeat([ROW], 1), Repeat([RowText(rested("ktog", "k"))], 1))
        self.check(rows, end, EVERY, (0, ("stitch", 1, 0, "k", "ktog")))
        short = pattern((4, 1), Repeat([ROW], 1), Repeat([RowText(rested("", "k", "ktog"))], 1))
        self.check(rows, short, EVERY, (0, ("stitch", 1, 2, "k", "ktog")))
        more = pattern((4, 1), Repeat([ROW], 1), Repeat([RowText(rested("", "k", "yo"))], 1))
        self.check(rows, more, EVERY, (0, ("stitch", 1, 4, None, "yo")))
        self.check(more, rows, EVERY, (0, ("stitch", 1, 4, "yo", None)))
        # Whoever fails in a row, fails in it also if the other one has ended ahead of it.
        fails = pattern((4, 1), Repeat([ROW], 2), Cut(0, "left", BIG))
        sizes = Sizes((1, 0, 0, BIG - 5))
        self.check(rows, fails, sizes, (0, ("fails", 2, 2)), only_one=sizes)
        self.check(fails, rows, sizes, (0, ("fails", 2, 1)), only_other=sizes)
        later = pattern((4, 1), Repeat([ROW], 3), Cut(0, "left", BIG))
        self.check(rows, later, EVERY, (0, ("lacks", 2, 1)), only_one=sizes)
        sooner = pattern((4, 1), Repeat([ROW], 1), Cut(0, "left", BIG), Merge(0), Repeat([PURL], 1))
        self.check(rows, sooner, EVERY, (0, ("fails", 1, 2)), only_one=sizes)
        # An endless pattern has all rows.
        endless = pattern((4, 1), Repeat([ROW], 1), Until([PURL], 0, "at most", 3))
        self.check(rows, endless, EVERY, (0, ("stitch", 1, 0, "k", "p")), only_one=EVERY)
        self.check(pattern((4, 1), Repeat([ROW], 1)), endless, EVERY, (0, ("lacks", 1, 1)), only_one=EVERY)
        self.check(endless, fails, Sizes((1, 0, BIG - 4, None)), (BIG - 4, ("stitch", 1, 0, "p", "k")), sizes,
                   only_other=Sizes((1, 0, BIG - 4, None)))

    def test_sets(self):
        pairs = pattern((0, 1), Repeat([RowText(rested("", "k k"))], 1))
        odds = Sizes((2, 1, 0, None))
        self.check(pairs, pattern((0, 1), Repeat([ROW], 1)), odds, (1, ("fails", 0, 1)), only_other=odds)
        rib = pattern((0, 1), Repeat([RowText(kept("", "k k p"))], 1))
        self.check(pattern((0, 1), Repeat([ROW], 1)), rib, Sizes((1, 0, 3, None)), (3, ("stitch", 0, 2, "k", "p")))
        self.check(pattern((0, 1), Repeat([RowText(kept("", "k p"))], 1)), rib, Sizes((1, 0, 2, None)),
                   (2, ("stitch", 0, 1, "p", "k")))
        threes = pattern((0, 1), Repeat([RowText(rested("", "k k k"))], 1))
        self.check(pairs, threes, Sizes((6, 2, 0, None), (6, 3, 0, None), (6, 4, 0, None)), (2, ("fails", 0, 2)),
                   Sizes((6, 1, 0, None), (6, 5, 0, None)), Sizes((6, 2, 0, None), (6, 4, 0, None)),
                   Sizes((6, 3, 0, None)))
        both = Beside(pairs, pairs)
        self.assertEqual([both.word(size) for size in (0, 1, BIG, BIG + 1)], ["alike", "neither", "alike", "neither"])
        self.assertEqual((both.alike, both.neither), (odds.without(), odds))

    def test_far_sizes(self):
        plain = pattern((5, 1))
        both = self.check(pattern((5, 1), Times([ROW], -BIG, 1)), plain, Sizes((1, 0, BIG + 1, None)),
                          (BIG + 1, ("lacks", 0, 2)))
        self.assertIsNone(both.alike_from())
        both = self.check(plain, pattern((5, 1), Times([ROW], BIG, -1)), Sizes((1, 0, 0, BIG - 1)), (0, ("lacks", 0, 1)))
        self.assertEqual(both.alike_from(), BIG)
        # They part at just two sizes, of twenty-five and thirty digits.
        one, other = (pattern((0, 1), Until([ROW], 0, "just", loops)) for loops in (BIG, FAR))
        both = self.check(one, other, Sizes.of(BIG, FAR), (BIG, ("lacks", 0, 1)), Sizes.of(BIG, FAR).without(),
                          Sizes.of(BIG), Sizes.of(FAR))
        self.assertEqual((both.parting(FAR), both.alike_from()), (("lacks", 0, 2), FAR + 1))
        self.assertIsNone(both.parting(BIG + 1))

    def test_far_rows(self):
        early = pattern((7, 2), Times([ROW], 0, 3), Repeat([PURL], 1))
        late = pattern((7, 2), Times([ROW], 1, 3))
        both = self.check(early, late, EVERY, (0, ("stitch", 0, 0, "p", "k")))
        self.assertEqual(both.parting(BIG), ("stitch", 3 * BIG, 0, "p", "k"))
        # The section gets 20 loops in row 16 + n, and its last loop is then worked otherwise.
        grow = [RowText(rested("", "k", "yo"))]
        twin = [RowText(kept("", " ".join(["k"] * 19 + ["p"]), "yo"))]
        both = self.check(pattern((4, 0), Times(grow, 0, 2)), pattern((4, 0), Times(twin, 0, 2)), Sizes((1, 0, 9, None)),
                          (9, ("stitch", 16, 19, "k", "p")))
        self.assertEqual(both.parting(BIG), ("stitch", 16, 19, "k", "p"))
        # A fall from far above: the last stitches differ in none of the rows but the last one.
        fall = pattern((4, 2), Times([RowText(rested("", "k", "ktog"))], 3, 2))
        self.check(fall, pattern((4, 2), Times([RowText(rested("", "k", "ktog"))], 2, 2), Repeat([RowText(rested("", "ktog"))], 1)),
                   NONE, None)
        self.check(fall, pattern((4, 2), Times([RowText(rested("", "k", "ktog"))], 2, 2), Repeat([RowText(rested("", "ssk"))], 1)),
                   EVERY, (0, ("stitch", 2, 0, "ktog", "ssk")))
        self.assertEqual(Beside(fall, pattern((4, 2), Until([RowText(rested("", "k", "ktog"))], 0, "at most", 2),
                                              Repeat([RowText(rested("", "ssk"))], 1))).parting(BIG),
                         ("stitch", 2 + 2 * BIG, 0, "ktog", "ssk"))

    def test_same_rows_otherwise_written(self):
        stripes = [ROW, PURL]
        for one, other in (
            ([Times(stripes, 0, 1)], [Until(stripes, 0, "just", BIG * BIG)]),
            ([Times(stripes * 3, 0, 1)], [Times(stripes * 2, 0, 1), Times(stripes, 0, 1)]),
            ([Times([ROW, PURL, ROW], 0, 2)], [Times([ROW, PURL, ROW, ROW, PURL, ROW], 0, 1)]),
            ([Times([ROW] * 6, 0, 1)], [Times([ROW] * 4, 0, 1), Times([ROW], 0, 2)]),
            ([Times([ROW] * 48, 0, 1)], [Times([ROW] * 16, 0, 3)]),
            ([Repeat([ROW] * 4, 60)], [Repeat([ROW], 60), Repeat([ROW] * 3, 60)]),
            ([Times([RowText(rested("ktog", "k"))], 0, 1)], [Times([RowText(kept("ktog", "k k"))], 0, 1)]),
            ([Times([RowText(rested("ktog", "k"))] * 2, 0, 1)], [Times([RowText(rested("ktog", "k"))], 0, 1)] * 2),
            ([Times([RowText(rested("ktog", "k")), RowText(kept("ktog", "k k"))], 0, 1)],
             [Times([RowText(rested("ktog", "k"))], 0, 1), Times([RowText(kept("ktog", "k k k"))], 0, 1)]),
            ([Times([RowText(kept("yo", "k p")), RowText(kept("yo", "p k"))], 0, 1)],
             [Times([RowText(kept("yo", "k p")), RowText(kept("yo", "p k"))], 0, 1)]),
            ([Times([RowText(rested("yo k", "k"))], 0, 1)], [Times([RowText(rested("yo", "k", "k"))], 0, 1)]),
            ([Times([RowText(kept("yo", "k p"))] * 2, 0, 1)], [Times([RowText(kept("yo", "k p k p"))], 0, 2)]),
            ([Repeat([RowText(Evenly(USUAL, ("yo",), 2, "k"))], 1)], [Repeat([RowText(Evenly(USUAL, ("yo",), 2, "k"))], 1)]),
        ):
            both = Beside(pattern((5, 3), *one), pattern((5, 3), *other))
            sizes = sizes_through(pattern((5, 3), *one)) & sizes_through(pattern((5, 3), *other))
            self.assertEqual(both.alike, sizes)
            self.assertFalse(both.parted & sizes)

    def test_heavy(self):
        """Long periods, great blocks, and a turn of sizes for each remainder."""
        eighteen = " ".join(["k"] * 9 + ["p"] * 9)
        one = pattern((40, 1), Until([RowText(kept("ktog", eighteen))], 0, "at most", 8))
        self.check(one, pattern((40, 1), Until([RowText(kept("ktog k", eighteen, shift=1))], 0, "at most", 8)), NONE, None)
        other = pattern((40, 1), Until([RowText(kept("ktog k", eighteen, shift=2))], 0, "at most", 8))
        self.check(one, other, EVERY, (0, ("stitch", 0, 9, "k", "p")))
        rows = [*[ROW] * 47, RowText(rested("ktog", "k"))]
        twins = [*[RowText(rested("k", "k"))] * 47, RowText(rested("ktog", "k"))]
        self.check(pattern((40, 1), Times(rows, 3, 1)), pattern((40, 1), Times(twins, 3, 1)), NONE, None)
        odd = pattern((40, 1), Times(twins[:-1] + [RowText(rested("", "k", "ssk"))], 3, 1))
        self.check(pattern((40, 1), Times(rows, 3, 1)), odd, EVERY, (0, ("stitch", 47, 0, "ktog", "k")))

    def test_swapped(self):
        one = pattern((4, 1), Repeat([ROW], 2), Cut(0, "left", 7))
        other = pattern((4, 1), Repeat([ROW, PURL], 1))
        both, turned = Beside(one, other), Beside(one, other).swapped()
        self.assertEqual((turned.one, turned.other), (other, one))
        self.assertEqual(turned, Beside(other, one))
        self.assertEqual((turned.only_one, turned.only_other), (both.only_other, both.only_one))
        self.assertEqual((turned.alike, turned.parted, turned.neither), (both.alike, both.parted, both.neither))
        self.assertEqual(turned.parting(3), ("stitch", 1, 0, "p", "k"))
        self.equal_only_to(both, Beside(other=other, one=one), turned.swapped())
        self.assertFalse(both == turned)
        self.assertFalse(both == Beside(one, one))
        self.is_fixed(both, "one", "other", "alike", "parted", "neither", "only_one", "only_other", "is_alike")


class TestErrors(Case):
    def test_wrong_patterns(self):
        good = pattern((1, 1))
        foreign = Pattern(OTHER_BOOK, "round", [(1, 1)], [])
        for call in (Beside, are_alike):
            self.all_fail(InvalidPattern, "value", only(no_pattern), lambda value: call(value, None))
            self.all_fail(InvalidPattern, "value", only(no_pattern), lambda value: call(good, value))
            self.fails(InvalidPattern, {"value": foreign}, call, good, foreign)
            self.fails(InvalidPattern, {"value": good}, call, foreign, good)
            call(one=good, other=Pattern(Book(*USUAL), "round", [(1, 1)], []))

    def test_too_heavy(self):
        def heavy(*steps):
            return pattern((9, 9), *[Repeat([RowText(rested("", "k " * step))], 1) for step in steps])
        for call in (Beside, are_alike):
            for one, other in ((heavy(19), heavy(19)), (heavy(19, 19), heavy()), (heavy(), heavy(60, 60, 60))):
                self.fails(TooMany, {"what": "weight", "limit": 360}, call, one, other)
                self.fails(InvalidPattern, {"value": None}, call, one, None)
        self.assertEqual([weight_of(told) for told in (heavy(18), heavy(20))], [18, 20])
        self.assertEqual(Beside(heavy(18), heavy(20)).only_one, Sizes((2, 1, 0, None)) - Sizes((20, 19, 0, None)))

    def test_too_many_blocks(self):
        def rows(*many):
            return pattern((9, 9), *[Times([ROW] * number, 1, 0) for number in many])
        blocks = {"what": "blocks", "limit": 48}
        for one, other in ((rows(16), rows(3, 48)), (rows(4, 6), rows(8, 2, 1)), (rows(), rows(48)), (rows(47), rows(1)),
                           (pattern((9, 9), Repeat([ROW] * 49, 1)), rows(48))):
            Beside(one, other)
        until = pattern((9, 9), Until([ROW] * 5, 0, "at least", 9))
        for one, other in ((rows(49), rows()), (rows(7), rows(8)), (rows(5, 10), until), (until, rows(16)),
                           (rows(240), rows(240))):
            if (one, other) == (rows(5, 10), until):
                Beside(one, other)
                continue
            self.fails(TooMany, blocks, Beside, one, other)
            self.fails(TooMany, blocks, are_alike, one, other)
        both = pattern((9, 9), Times([ROW] * 49, 1, 0), *[Repeat([RowText(rested("", "k " * 19))], 1)] * 2)
        self.fails(TooMany, {"what": "weight", "limit": 360}, Beside, both, both)

    def test_wrong_sizes(self):
        both = Beside(pattern((1, 1)), pattern((2, 1)))
        self.all_fail(InvalidNumber, "value", only(no_count), both.word)
        self.all_fail(InvalidNumber, "value", only(no_count), both.parting)
        self.assertEqual((both.word(size=FAR), both.parting(size=FAR)), ("parted", ("cast on", FAR + 1, FAR + 2)))


class TestResized(Case):
    def test_told(self):
        block = [LESS, ROW]
        told = Pattern(USUAL, "wrong", [(20, 4), (0, 1)], [
            Repeat([RowText(PLAIN, PLAIN)], 2), Merge(0), Times(block, -3, 2), Until(block, 0, "at most", 8),
            Cut(0, "left", 3)])
        wanted = Pattern(USUAL, "wrong", [(60, 12), (10, 3)], [
            Repeat([RowText(PLAIN, PLAIN)], 2), Merge(0), Times(block, 17, 6), Until(block, 0, "at most", 8),
            Cut(0, "left", 3)])
        self.assertEqual(resized(told, 10, 3), wanted)
        self.assertEqual(resized(pattern=told, start=0, factor=1), told)
        self.assertEqual(resized(told, 7, 0).cast_on, ((48, 0), (7, 0)))
        self.assertEqual(resized(told, FAR, FAR).cast_on[1], (FAR, FAR))

    def test_errors(self):
        self.all_fail(InvalidPattern, "value", only(no_pattern), lambda value: resized(value, None, None))
        good = pattern((1, 1))
        self.all_fail(InvalidNumber, "value", only(no_count), lambda value: resized(good, value, None))
        self.all_fail(InvalidNumber, "value", only(no_count), lambda value: resized(good, 3, value))

    def test_drawn(self):
        chance = drawn(191)
        for _ in range(300):
            told, start, factor = drawn_pattern(chance), chance.randint(0, 9), chance.randint(0, 4)
            made = resized(told, start, factor)
            for size in (0, 1, chance.randint(0, 9), BIG):
                self.assertEqual(outcome_at(made, size), outcome_at(told, start + factor * size))


class TestDrawn(Case):
    def test_drawn(self):
        """Word, first parting, least and sets of drawn pairs against two knitters at all small sizes."""
        chance = drawn(192)
        seen = {}
        mixed = 0
        for _ in range(300):
            one, other = drawn_pair(chance)
            if other is None or weight_of(one) * weight_of(other) > 360:
                continue
            try:
                both = Beside(one, other)
            except TooMany as error:
                self.assertEqual(error.what, "blocks")
                continue
            mixed += bool(both.alike) and bool(both.parted)
            self.check(both, range(9), seen)
            self.check_far(both, chance)
        self.assertGreater(mixed, 15)
        self.assertGreater(min(seen[word] for word in ("alike", "neither", "cast on", "stitch", "lacks", "fails")), 15, seen)

    def test_late(self):
        """Pairs that part where a section has got many loops."""
        chance = drawn(193)
        seen = {}
        mixed = 0
        for _ in range(80):
            one, other = late_pair(chance)
            if weight_of(one) * weight_of(other) > 360:
                continue
            both = Beside(one, other)
            mixed += bool(both.alike) and bool(both.parted)
            self.check(both, range(26), seen)
            self.check_far(both, chance)
        self.assertGreater(mixed, 15)
        self.assertGreater(min(seen["alike"], seen["stitch"]), 100)

    def check(self, both, sizes, seen):
        least = None
        for size in sizes:
            word, parting = beside(Knitter(both.one, size), Knitter(both.other, size))
            self.assertEqual((both.word(size), both.parting(size)), (word, parting))
            sets = {"alike": both.alike, "parted": both.parted, "neither": both.neither}
            self.assertEqual([name for name in sets if size in sets[name]], [word])
            through = [outcome_at(told, size)[0] == "through" for told in (both.one, both.other)]
            self.assertEqual([size in both.only_one, size in both.only_other], [through == [True, False],
                                                                                 through == [False, True]])
            least = (size, parting) if least is None and parting else least
            seen[parting[0] if parting else word] = seen.get(parting[0] if parting else word, 0) + 1
        self.assertEqual(both.least() if both.least() and both.least()[0] in sizes else None, least)
        self.assertEqual(both.is_alike, both.least() is None)

    def check_far(self, both, chance):
        """The sets are all sizes together, and far away the first parting is one, row by row around it."""
        self.assertEqual(both.alike | both.parted | both.neither, EVERY)
        self.assertFalse(both.alike & both.parted | both.parted & both.neither | both.alike & both.neither)
        start = both.alike_from()
        if start is None:
            self.assertFalse(both.parted.is_finite)
        else:
            self.assertIsNone(both.parted.next_size(start))
            self.assertTrue(start == 0 or start - 1 in both.parted)
        for size in (chance.randint(0, BIG), chance.randint(0, 500), (both.parted.next_size(BIG) or FAR)):
            works = [Work(told, size) for told in (both.one, both.other)]
            through = [work.outcome[0] == "through" for work in works]
            self.assertEqual(both.word(size) == "neither", not any(through))
            parting = both.parting(size)
            if both.word(size) == "alike":
                self.assertEqual(works[0].row_count, works[1].row_count)
                self.assert_rows(works, works[0].row_count, chance)
            elif parting and parting[0] != "cast on":
                self.assert_parts(works, parting, chance)

    def assert_rows(self, works, rows, chance):
        """The rows ahead of a number are the same, as far as one can look."""
        some = {0, rows - 1, rows - 2, rows // 2, *(chance.randrange(rows) for _ in range(3) if rows)}
        for row in some:
            if 0 <= row < rows:
                self.assertEqual(works[0].row(row), works[1].row(row))

    def assert_parts(self, works, parting, chance):
        word, row, told = parting[:3]
        self.assert_rows(works, row, chance)
        if word == "stitch":
            words = [work.row(row) for work in works]
            self.assertEqual(words[0].first_difference(words[1]), told)
            names = [found.letter(told) if told < found.length else None for found in words]
            self.assertEqual(names, list(parting[3:]))
            return
        outcome = works[told - 1].outcome
        self.assertEqual((outcome[0], outcome[1]), ("fails" if word == "fails" else "through", row))
        self.assertTrue(works[2 - told].row_count is None or works[2 - told].row_count >= row)

    def test_resized_side_by_side(self):
        """What is true of a pair at size start + factor * k, is true of the resized pair at size k."""
        chance = drawn(194)
        for _ in range(60):
            one, other = drawn_pair(chance)
            if other is None or weight_of(one) * weight_of(other) > 360:
                continue
            start, factor = chance.randint(0, 30), chance.randint(0, 3)
            try:
                both, far = Beside(one, other), Beside(resized(one, start, factor), resized(other, start, factor))
            except TooMany:
                continue
            for size in range(12):
                self.assertEqual(far.word(size), both.word(start + factor * size))
                self.assertEqual(far.parting(size), both.parting(start + factor * size))


class TestShadows(unittest.TestCase):
    def test_drawn(self):
        """The x of the points of a cell, each in one stretch."""
        chance = drawn(195)
        for _ in range(3000):
            conditions = tight([(chance.randint(-4, 4), chance.randint(-6, 6), chance.randint(-30, 30))
                                for _ in range(chance.randint(1, 4))])
            found = shadow(conditions)
            for x in [*range(60), chance.randrange(BIG), chance.randrange(BIG)]:
                held = [last is None or x <= last for modulus, residue, first, last in found
                        if x >= first and x % modulus == residue]
                self.assertEqual(sum(held), least_height(conditions, x) is not None, (conditions, x))

    def test_slanted_lines(self):
        # 3 * y = 2 * x + 1 has points for every third x.
        self.assertEqual(Sizes(*shadow([(2, -3, 1), (-2, 3, -1)])), Sizes((3, 1, 0, None)))
        self.assertEqual(Sizes(*shadow([(2, -3, 1), (-2, 3, -1), (-1, 0, BIG)])), Sizes((3, 1, 0, BIG)))
        self.assertEqual(shadow([(0, 0, -1)]), [])
        self.assertEqual(Sizes(*shadow([])), EVERY)


if __name__ == "__main__":
    unittest.main()
