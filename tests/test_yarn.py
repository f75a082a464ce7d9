"""The yarn of two patterns at all sizes: [64], and the interface of yarn.py; and what it is reckoned by."""

import unittest

from knitter import drawn_pattern
from support import Case, FAR, OTHER_BOOK, USUAL, drawn, no_pattern, only
from stitchsizes.errors import InvalidPattern, TooMany
from stitchsizes.kinds import Book, Kind
from stitchsizes.patterns import Cut, Merge, Pattern, Repeat, Times, Until
from stitchsizes.pieces import sizes_through, weight_of
from stitchsizes.rows import RowText
from stitchsizes.sections import Evenly, Kept, Rested
from stitchsizes.squares import first_above, is_above_in_the_end, last_not_above, square_at, square_through
from stitchsizes.working import outcome_at, yarn_at
from stitchsizes.yarn import always_more_from, least_more

BIG = 10 ** 25
# Kinds that need unlike yarn, so that the letters of a KEPT text count by their place.
WOOL = Book(*[Kind(kind.name, kind.takes, kind.makes, back=kind.back, mirror=kind.mirror, yarn=weight)
              for kind, weight in zip(USUAL, (4, 11, 3, 6, 1, 0, 2, 999, 5, 7))])


def rested(book, before, repeated, after=""):
    return Rested(book, *[tuple(words.split()) for words in (before, repeated, after)])


def pattern(cast_on, *steps, book=USUAL):
    return Pattern(book, "round", [cast_on], steps)


def rows(p, q, book=USUAL):
    """Plain rows, p + q * n of them."""
    return Times([RowText(rested(book, "", "k"))], p, q)


def in_wool(told):
    """The same pattern in the book whose kinds need unlike yarn."""
    steps = []
    for step in told.steps:
        if isinstance(step, (Cut, Merge)):
            steps.append(step)
            continue
        block = [RowText(*[text_in_wool(text) for text in row.texts]) for row in step.block]
        if isinstance(step, Repeat):
            steps.append(Repeat(block, step.times))
        elif isinstance(step, Times):
            steps.append(Times(block, step.p, step.q))
        else:
            steps.append(Until(block, step.section, step.way, step.loops))
    return Pattern(WOOL, told.way, told.cast_on, steps)


def text_in_wool(text):
    if isinstance(text, Rested):
        return Rested(WOOL, text.before, text.repeated, text.after)
    if isinstance(text, Kept):
        return Kept(WOOL, text.before, text.repeated, text.after, shift=text.shift)
    return Evenly(WOOL, text.deed, text.times, text.plain)


def drawn_long(chance):
    """A pattern that goes through at many sizes, with all sorts of texts."""
    names = ("k", "p", "k", "yo", "ktog")
    steps = []
    for _ in range(chance.randint(1, 2)):
        repeated = tuple(chance.choice(("k", "p")) for _ in range(chance.randint(1, 3)))
        ends = [tuple(chance.choice(names) for _ in range(chance.randint(0, 1))) for _ in range(2)]
        text = Kept(WOOL, ends[0], repeated, ends[1], shift=chance.randrange(len(repeated)))
        if chance.random() < 0.4:
            text = Rested(WOOL, ends[0], repeated[:1], ends[1])
        block = [RowText(text)] * chance.randint(1, 2)
        sort = chance.randint(0, 3)
        if sort == 0:
            steps.append(Repeat([*block, RowText(Evenly(WOOL, ("yo",), chance.randint(1, 3), "p"))], chance.randint(0, 3)))
        elif sort == 1:
            steps.append(Until(block, 0, chance.choice(["at most", "at least"]), chance.randint(0, 40)))
        else:
            steps.append(Times(block, chance.randint(-9, 9), chance.choice([0, 0, 1, 2])))
    return Pattern(WOOL, "round", [(chance.randint(0, 50), chance.randint(0, 4))], steps)


class TestTold(Case):
    def check(self, one, other, least, always):
        self.assertEqual(least_more(one, other), least)
        self.assertEqual(always_more_from(one, other), always)

    def test_plain_rows(self):
        # At size n they need (10 + n) * rows.
        ten = pattern((10, 1), rows(10, 0))
        for p, q, least, always in ((11, 0, 0, 0), (10, 0, None, None), (9, 0, None, None), (9, 1, 2, 2), (10, 1, 1, 1),
                                    (-BIG, 1, BIG + 11, BIG + 11), (11, -1, 0, None), (0, 0, None, None)):
            self.check(pattern((10, 1), rows(p, q)), ten, least, always)
        self.check(ten, pattern((10, 1), rows(0, 1)), 0, None)
        self.check(ten, pattern((10, 1), rows(20, -1)), 11, 11)
        self.check(ten, ten, None, None)
        self.check(pattern((1, 0), rows(1, 0)), pattern((5, 5)), 0, 0)
        self.check(pattern((5, 5)), pattern((5, 5)), None, None)

    def test_squares(self):
        # n * n + 4 against 100 * n: less yarn between two sizes.
        square = pattern((0, 1), rows(0, 1), Until([RowText(rested(USUAL, "yo", "k"))], 0, "at least", 0))
        line = pattern((0, 1), rows(100, 0))
        self.check(square, line, 101, 101)
        self.check(line, square, 1, None)
        self.check(pattern((7, 3), rows(4, BIG)), pattern((7, 3), rows(BIG ** 2, 0)), BIG, BIG)
        far = pattern((FAR, 0), rows(0, 1))
        self.check(far, pattern((0, 1), rows(0, 1)), 1, None)
        self.check(pattern((0, 1), rows(0, 1)), far, FAR + 1, FAR + 1)

    def test_steps_that_fail(self):
        # Only even sizes go through, and odd sizes count for nothing.
        evens = pattern((0, 1), Repeat([RowText(rested(USUAL, "", "k k"))], 3))
        self.check(evens, pattern((0, 1), rows(2, 0)), 2, 1)
        self.check(pattern((0, 1), rows(2, 0)), evens, None, None)
        few = pattern((0, 1), rows(0, 1), Cut(0, "left", 0), Merge(0), Until([RowText(rested(USUAL, "", "k"))], 0, "just", 9))
        self.check(few, pattern((0, 1)), 9, None)
        self.check(pattern((5, 5)), few, None, None)
        never = pattern((0, 0), Cut(0, "left", 1))
        self.check(never, pattern((0, 1)), None, None)
        self.check(pattern((0, 1), rows(1, 0)), never, None, None)

    def test_kept_letters(self):
        rib = Kept(WOOL, ("ktog",), ("k", "p"), ())
        k, p, ktog = (WOOL.kind(name).yarn for name in ("k", "p", "ktog"))
        less = Pattern(WOOL, "round", [(2, 2)], [Until([RowText(rib)], 0, "just", 1)])
        for size in (0, 1, 5):
            wanted = (2 * size + 1) * ktog + size * (size + 1) * k + size * size * p
            self.assertEqual(yarn_at(less, size), wanted)
        # One plain row of k needs 3 for each loop, so so many rows of n + 1 loops need more from just one size on.
        plain = Pattern(WOOL, "round", [(0, 1)], [Times([RowText(rested(WOOL, "", "k"))], BIG, 0)])
        least = always_more_from(less, plain)
        self.assertGreater(yarn_at(less, least), yarn_at(plain, least))
        self.assertLessEqual(yarn_at(less, least - 1), yarn_at(plain, least - 1))
        self.assertEqual(least_more(less, plain), 0)
        self.assertEqual(least_more(plain, less), 1)

    def test_rounds_that_break_off(self):
        """A rib that grows by a loop in each round is not half k and half p in every second one."""
        book = Book(Kind("k", 1, 1, yarn=2), Kind("p", 1, 1, yarn=4), Kind("q", 1, 1, yarn=3), Kind("yo", 0, 1, yarn=0),
                    Kind("bo", 1, 0))
        plain = Pattern(book, "round", [(0, 0)], [Times([RowText(Rested(book, ("yo",), ("q",), ()))], 0, 1)])
        rib = Times([RowText(Kept(book, ("yo",), ("k", "p"), ()))], 0, 1)
        for lead in (0, 1, 10, BIG):
            # In n rounds it needs as many less than 3 for each loop as there are odd numbers below n.
            more = Pattern(book, "round", [(lead, 0)], [Repeat([RowText(Rested(book, (), ("bo",), ()))], 1), rib])
            self.assertEqual([yarn_at(plain, n) - yarn_at(more, n) + lead for n in (0, 1, 2, 3, 4, 9)], [0, 0, 1, 1, 2, 4])
            self.check(plain, more, 2 * lead + 2, 2 * lead + 2)
            self.check(more, plain, 0 if lead else None, None)

    def test_other_books(self):
        other = Pattern(OTHER_BOOK, "round", [(3, 1)], [rows(2, 0, OTHER_BOOK)])
        self.check(other, pattern((3, 1), rows(1, 0)), 0, 0)
        self.check(pattern((3, 1), rows(1, 1)), other, 2, 2)


class TestErrors(Case):
    def test_errors(self):
        good = pattern((1, 1))
        heavy = pattern((9, 9), *[Repeat([RowText(rested(USUAL, "", "k " * 19))], 1)] * 2)
        half = pattern((9, 9), Repeat([RowText(rested(USUAL, "", "k " * 19))], 1))
        light = pattern((9, 9), Repeat([RowText(rested(USUAL, "", "k " * 18)), RowText(rested(USUAL, "", "k " * 20))], 1))
        for call in (least_more, always_more_from):
            self.all_fail(InvalidPattern, "value", only(no_pattern), lambda value: call(value, None))
            self.all_fail(InvalidPattern, "value", only(no_pattern), lambda value: call(heavy, value))
            for one, other in ((heavy, good), (good, heavy), (half, half), (light, half)):
                self.fails(TooMany, {"what": "weight", "limit": 360}, call, one, other)
            self.assertEqual(call(one=light, other=good), 19 if call is least_more else 0)
        self.assertEqual([weight_of(told) for told in (heavy, half, light)], [361, 19, 360])


class TestDrawn(Case):
    def yarn(self, told, size):
        return yarn_at(told, size) if outcome_at(told, size)[0] == "through" else None

    def more(self, one, other, size):
        """Whether the first pattern needs more yarn; None if one of them does not go through."""
        needs = self.yarn(one, size), self.yarn(other, size)
        return None if None in needs else needs[0] > needs[1]

    def test_drawn(self):
        chance = drawn(171)
        seen = {"least": 0, "late": 0, "none": 0, "always": 0, "never": 0, "finite": 0, "far": 0}
        for at in range(900):
            one, other = (drawn_long(chance) if at % 3 else in_wool(drawn_pattern(chance, 3, 2)) for _ in range(2))
            if weight_of(one) * weight_of(other) > 360:
                continue
            least, always = least_more(one, other), always_more_from(one, other)
            small = [self.more(one, other, size) for size in range(40)]
            self.check_least(one, other, least, small, seen)
            both = sizes_through(one) & sizes_through(other)
            seen["finite"] += both.is_finite
            if always is None:
                seen["never"] += 1
                if not both.is_finite:
                    self.assert_not_always(one, other, both, chance.randint(0, BIG))
                continue
            seen["always"] += 1
            self.assertFalse(both.is_finite)
            self.assertNotIn(False, small[always:])
            if always:
                self.assertIs(self.more(one, other, always - 1), False)
            for base in (always, always + BIG):
                size = both.next_size(base + chance.randint(0, 50))
                self.assertIs(self.more(one, other, size), True)
                seen["far"] += 1
        self.assertGreater(seen.pop("late"), 0)
        self.assertGreater(min(seen.values()), 50, seen)

    def check_least(self, one, other, least, small, seen):
        if least is None:
            self.assertNotIn(True, small)
            seen["none"] += 1
        elif least < len(small):
            self.assertEqual(small.index(True), least)
            seen["least"] += 1
        else:
            self.assertNotIn(True, small)
            self.assertIs(self.more(one, other, least), True)
            seen["late"] += 1

    def assert_not_always(self, one, other, both, size):
        """There is a far size at which the first pattern does not need more."""
        for _ in range(400):
            size = both.next_size(size)
            if not self.more(one, other, size):
                return
        self.fail("it needs more at 400 sizes, one after the other")


class TestSquares(unittest.TestCase):
    """Square functions against their values."""

    def test_drawn(self):
        chance = drawn(172)
        for _ in range(4000):
            square = (chance.randint(-3, 3), chance.randint(-20, 20), chance.randint(-40, 40))
            last = chance.choice([None, chance.randint(0, 40)])
            values = [square_at(square, k) for k in range(200 if last is None else last + 1)]
            self.assertEqual(square_through(values[:3])[2], square[2])
            if len(values) > 2:
                self.assertEqual(square_through(values[:3]), square)
            above = [k for k, value in enumerate(values) if value > 0]
            below = [k for k, value in enumerate(values) if value <= 0]
            self.assertEqual(first_above(square, last), above[0] if above else None)
            self.assertEqual(is_above_in_the_end(square), square_at(square, 10 ** 9) > 0)
            if last is not None or is_above_in_the_end(square):
                self.assertEqual(last_not_above(square, last), below[-1] if below else None)

    def test_far(self):
        self.assertEqual(first_above((2, -2 * BIG, 0), None), 2 * BIG + 2)
        self.assertEqual(last_not_above((2, -2 * BIG, 0), None), 2 * BIG + 1)
        self.assertEqual(first_above((-2, 2 * BIG, -BIG * BIG // 4), BIG ** 3), square_root_place())
        self.assertIsNone(first_above((-2, 2, -2), None))
        self.assertEqual(last_not_above((-2, 2 * BIG, 5), 3 * BIG), 3 * BIG)


def square_root_place():
    """The least k with -k * (k - 1) + 2 * BIG * k > BIG * BIG / 4, by halving."""
    low, high = 0, BIG
    while low < high:
        middle = (low + high) // 2
        if -middle * (middle - 1) + 2 * BIG * middle > BIG * BIG // 4:
            high = middle
        else:
            low = middle + 1
    return low


if __name__ == "__main__":
    unittest.main()
