"""Sets of sizes: [61] and the interface of sizes.py."""

import unittest
from math import lcm

from support import Case, FAR, drawn, no_count, only, values
from stitchsizes.errors import InvalidNumber, InvalidStretches
from stitchsizes.sizes import Sizes

BIG = 10 ** 26
WIDE = 120


def drawn_stretch(chance, base, moduli=(1, 1, 2, 3, 4, 6, 12)):
    modulus = chance.choice(moduli)
    first = base + chance.randint(0, 30)
    last = chance.choice([None, max(0, first + chance.randint(-4, 3)), first + chance.randint(0, 40)])
    return (modulus, chance.randrange(modulus), first, last)


def holds(stretch, number):
    modulus, residue, first, last = stretch
    return first <= number and (last is None or number <= last) and number % modulus == residue


def listed(stretches, first, end):
    return [number for number in range(first, end) if any(holds(stretch, number) for stretch in stretches)]


class TestSizes(Case):
    def check(self, sizes, wanted, first, end):
        """The set has just these elements among the counts from first up to end."""
        self.assertIs(type(sizes), Sizes)
        self.assertEqual([number for number in range(first, end) if number in sizes], wanted)
        told = sizes.stretches()
        self.assertIs(type(told), list)
        for number in range(first, end):
            self.assertEqual(sum(holds(stretch, number) for stretch in told), int(number in wanted))
        self.assertEqual(sizes.count(first, end - 1), len(wanted))
        for size in (first, end - 2, *wanted[:2]):
            later = [number for number in wanted if number > size]
            if later:
                self.assertEqual(sizes.next_size(size), later[0])
        self.assertIs(bool(sizes), sizes.least() is not None)
        if first == 0:
            self.assertEqual(sizes.least(), wanted[0] if wanted else sizes.next_size(end - 1))
        elif wanted and (sizes.least() or 0) >= first:
            self.assertEqual(sizes.least(), wanted[0])

    def test_examples(self):
        evens = Sizes((2, 0, 0, None))
        self.check(evens, list(range(0, 50, 2)), 0, 50)
        self.assertEqual((evens.least(), evens.next_size(0), evens.next_size(1), evens.next_size(FAR)),
                         (0, 2, 2, FAR + 1))
        self.assertEqual((evens.count(0, BIG), evens.count(1, 1), evens.is_finite), (BIG // 2 + 1, 0, False))
        few = Sizes((3, 1, 5, 12), (1, 0, 10, 10))
        self.check(few, [7, 10], 0, 50)
        self.assertEqual((few.is_finite, few.next_size(10), few.count(0, FAR)), (True, None, 2))
        self.check(Sizes(), [], 0, 50)
        self.assertEqual((Sizes().least(), Sizes().is_finite, Sizes().stretches()), (None, True, []))
        self.check(Sizes((5, 3, 9, 8)), [], 0, 50)
        self.check(Sizes((5, 3, 9, 12), (4, 0, 9, 11)), [], 0, 50)
        self.check(Sizes((1, 0, 0, 0)), [0], 0, 50)
        self.is_fixed(evens, "is_finite")

    def test_whole_and_of(self):
        self.check(Sizes.whole(), list(range(50)), 0, 50)
        self.assertEqual(Sizes.whole(), Sizes((1, 0, 0, None)))
        self.assertEqual(Sizes.whole().count(0, FAR), FAR + 1)
        self.check(Sizes.of(5, 2, 5, 3), [2, 3, 5], 0, 50)
        self.assertEqual(Sizes.of(), Sizes())
        self.assertEqual(Sizes.of(FAR).least(), FAR)
        self.assertEqual(Sizes.of(3, 4), Sizes((1, 0, 3, 4)))
        self.all_fail(InvalidNumber, "value", only(no_count), lambda value: Sizes.of(1, value, None))

    def test_wrong_stretches(self):
        good = (2, 1, 0, None)
        for value in [*values(), (2, 1, 0), (2, 1, 0, 1, 1), [2, 1, 0, 1], (0, 0, 0, 1), (-2, 1, 0, 1), (2, 2, 0, 1),
                      (2, -1, 0, 1), (2, 1, -1, 1), (2, 1, 0, -1), (True, 0, 0, 1), (1, False, 0, 1), (2, True, 0, 1),
                      (2, 1, False, 1), (2, 1, 0, True), (2, 1, None, 1), (None, 1, 0, 1), (2, None, 0, 1),
                      ("2", 1, 0, 1), (2, 1, 0, "1")]:
            self.fails(InvalidStretches, {"position": 0}, Sizes, value)
            self.fails(InvalidStretches, {"position": 2}, Sizes, good, good, value, None)
        self.assertEqual(len(Sizes((1, 0, 0, 0), (5040, 5039, FAR, FAR + 5040)).stretches()), 2)

    def test_wrong_numbers(self):
        wrong = only(no_count)
        self.all_fail(InvalidNumber, "value", wrong, Sizes.whole().next_size)
        self.all_fail(InvalidNumber, "value", wrong, lambda value: Sizes().count(value, None))
        self.all_fail(InvalidNumber, "value", wrong, lambda value: Sizes.whole().count(7, value))

    def test_count_of_none(self):
        self.assertEqual(Sizes.whole().count(5, 4), 0)
        self.assertEqual(Sizes.whole().count(BIG, 0), 0)
        self.assertEqual(Sizes.whole().count(first=5, last=5), 1)
        self.assertEqual(Sizes.whole().next_size(size=5), 6)

    def test_in(self):
        whole = Sizes.whole()
        for value in values():
            wanted = isinstance(value, int) and value is not True and value is not False and value >= 0
            self.assertIs(value in whole, wanted)
            self.assertIs(value in Sizes(), False)
        self.assertIs(FAR in Sizes.of(FAR), True)

    def test_drawn(self):
        chance = drawn(161)
        alike = 0
        for _ in range(700):
            base = chance.choice([0, 0, BIG, BIG + 7])
            stretches = [[drawn_stretch(chance, base) for _ in range(chance.randint(0, 4))] for _ in range(2)]
            one, other = [Sizes(*given) for given in stretches]
            first, end = max(0, base - 3), base + WIDE
            mine, theirs = [listed(given, first, end) for given in stretches]
            self.check(one, mine, first, end)
            self.check(one | other, sorted({*mine, *theirs}), first, end)
            self.check(one & other, sorted({*mine} & {*theirs}), first, end)
            self.check(one - other, sorted({*mine} - {*theirs}), first, end)
            self.check(one.without(), [number for number in range(first, end) if number not in mine], first, end)
            self.check(Sizes(*one.stretches()), mine, first, end)
            # All that is not the same for ever shows itself within this width.
            self.assertIs(one == other, mine == theirs)
            self.assertIs(one != other, mine != theirs)
            self.assertEqual(one, Sizes(*one.stretches()))
            self.assertEqual(one.is_finite, all(last is not None for _, _, _, last in one.stretches()))
            self.assertEqual(one.is_finite, not listed(stretches[0], base + 100, end))
            self.assertEqual(one.without().without(), one)
            self.assertEqual((one - other) | (one & other), one)
            alike += mine == theirs
        self.assertGreater(alike, 20)

    def test_counts(self):
        chance = drawn(162)
        for _ in range(400):
            base = chance.choice([0, BIG])
            stretches = [drawn_stretch(chance, base) for _ in range(chance.randint(0, 3))]
            sizes = Sizes(*stretches)
            for _ in range(5):
                first, last = base + chance.randint(0, WIDE), base + chance.randint(0, WIDE)
                wanted = listed(stretches, first, last + 1)
                self.assertEqual(sizes.count(first, last), len(wanted))
                self.assertEqual(sizes.next_size(last), (listed(stretches, last + 1, base + 300) + [None])[0])
        # Far apart: a period of 12 counts comes again and again.
        stretches = [(4, 1, 5, None), (6, 2, 0, None), (1, 0, 3, 3)]
        sizes = Sizes(*stretches)
        many = 10 ** 24
        wanted = len(listed(stretches, 0, 24)) + (many - 1) * 5 + len(listed(stretches, 24, 24 + 7))
        self.assertEqual(sizes.count(0, 12 * many + 12 + 6), wanted)

    def test_same_elements_told_otherwise(self):
        for one, other in (
            (Sizes((2, 0, 0, None), (2, 1, 0, None)), Sizes.whole()),
            (Sizes((1, 0, 3, 9), (1, 0, 10, None)), Sizes((1, 0, 3, None))),
            (Sizes((2, 1, 4, 8)), Sizes((4, 1, 5, 5), (4, 3, 7, 7))),
            (Sizes((2, 1, 4, 6)), Sizes.of(5)),
            (Sizes((7, 3, 0, 9)), Sizes((11, 3, 0, 9))),
            (Sizes((6, 1, 0, None), (6, 4, 0, None)), Sizes((3, 1, 0, None))),
            (Sizes((5, 1, 2, 5)), Sizes()),
            (Sizes((1, 0, 0, BIG), (1, 0, BIG + 2, None)), Sizes.of(BIG + 1).without()),
            (Sizes((5040, 17, 0, 16)), Sizes((1, 0, 1, 0))),
            (Sizes(*[(5040, residue, 0, None) for residue in range(0, 5040, 14)]), Sizes((14, 0, 0, None))),
        ):
            self.equal_only_to(one, other)
            self.assertFalse(bool((one - other) | (other - one)))
        for one, other in (
            (Sizes.whole(), Sizes((1, 0, 1, None))), (Sizes.whole(), Sizes((1, 0, 0, FAR))), (Sizes(), Sizes.of(0)),
            (Sizes((2, 0, 0, None)), Sizes((2, 1, 0, None))), (Sizes.of(BIG), Sizes.of(BIG + 1)),
            (Sizes((5040, 1, 0, None)), Sizes((2520, 1, 0, None))),
        ):
            self.assertTrue(one != other)
            self.assertFalse(one == other)
            self.assertTrue(bool((one - other) | (other - one)))

    def test_great_moduli(self):
        one, other = Sizes((720, 719, 5, None)), Sizes((7, 2, 0, None))
        both = one & other
        self.assertEqual(both.least(), [n for n in range(5040) if n % 720 == 719 and n % 7 == 2][0])
        self.assertEqual(both.next_size(both.least()), both.least() + 5040)
        self.assertEqual(len(both.stretches()), 1)
        self.assertEqual(both.count(0, 5040 * BIG - 1), BIG)
        self.assertEqual((one | other).count(0, 5039), 7 + 720 - 1)
        many = Sizes(*[(lcm(place % 4 + 1, 5), place % 5, 3 * place, 3 * place + 40) for place in range(500)])
        wanted = [number for number in range(1600) if any(
            3 * place <= number <= 3 * place + 40 and number % lcm(place % 4 + 1, 5) == place % 5 for place in range(500))]
        self.assertEqual([number for number in range(1600) if number in many], wanted)
        self.assertEqual(many.count(0, FAR), len(wanted))

    def test_operators_and_other_values(self):
        whole = Sizes.whole()
        for value in [value for value in values() if not isinstance(value, Sizes)]:
            self.fails(InvalidStretches, {"position": None}, lambda: whole | value)
            self.fails(InvalidStretches, {"position": None}, lambda: whole & value)
            self.fails(InvalidStretches, {"position": None}, lambda: whole - value)

    def test_nothing_changes(self):
        one, other = Sizes((3, 1, 0, 20)), Sizes.of(4)
        before = (one.stretches(), other.stretches())
        self.assertTrue(one - other and one | other and one & other and one.without())
        one.stretches().clear()
        self.assertEqual((one.stretches(), other.stretches()), before)
        self.assertEqual(one.next_size(1), 4)


if __name__ == "__main__":
    unittest.main()
