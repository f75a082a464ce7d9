"""Patterns and their steps: [51], [52] and the interface of patterns.py."""

import unittest

from support import Case, FAR, OTHER_BOOK, USUAL, Same, drawn, drawn_word, no_book, no_count, no_list, no_row, only
from support import values
from stitchsizes.errors import (
    InvalidBlock, InvalidBooks, InvalidCastOn, InvalidEdge, InvalidNumber, InvalidSection, InvalidSteps, InvalidWay,
    NoBack,
)
from stitchsizes.kinds import Book, Kind
from stitchsizes.patterns import Cut, Merge, Pattern, Repeat, Step, Times, Until
from stitchsizes.rows import RowText
from stitchsizes.sections import Evenly, Kept, Rested

PLAIN = Rested(USUAL, (), ("k",), ())
ROW = RowText(PLAIN)
FOREIGN = RowText(Rested(OTHER_BOOK, (), ("k",), ()))
WAYS = ("just", "at most", "at least")


def rested(before, repeated, after=""):
    return Rested(USUAL, *[tuple(words.split()) for words in (before, repeated, after)])


def row(*texts):
    return RowText(*texts)


def plain(many):
    return RowText(*[PLAIN] * many)


def no_integer(value):
    return isinstance(value, bool) or not isinstance(value, int)


class TestSteps(Case):
    def makers(self):
        return (lambda block: Repeat(block, 1), lambda block: Times(block, 1, 0),
                lambda block: Until(block, 0, "just", 1))

    def test_properties(self):
        block = [ROW, RowText(rested("k", "k"))]
        repeat, times, until = Repeat(block, 60), Times(block, -3, 2), Until(block, 5, "at most", FAR)
        block.clear()
        for step in (repeat, times, until):
            self.assertEqual(step.block, (ROW, RowText(rested("k", "k"))))
            self.assertIs(type(step.block), tuple)
        self.assertEqual((repeat.times, times.p, times.q), (60, -3, 2))
        self.assertEqual((until.section, until.way, until.loops), (5, "at most", FAR))
        cut, merge = Cut(3, "left", 0), Merge(4)
        self.assertEqual((cut.section, cut.edge, cut.loops, merge.section), (3, "left", 0, 4))
        self.is_fixed(repeat, "block", "times")
        self.is_fixed(times, "block", "p", "q")
        self.is_fixed(until, "block", "section", "way", "loops")
        self.is_fixed(cut, "section", "edge", "loops")
        self.is_fixed(merge, "section")
        self.assertEqual((until.section, until.loops, cut.section, cut.loops, merge.section), (5, FAR, 3, 0, 4))

    def test_names(self):
        self.assertEqual(Repeat(block=[ROW], times=2), Repeat((ROW,), 2))
        self.assertEqual(Times(block=[ROW], p=1, q=2), Times((ROW,), 1, 2))
        self.assertEqual(Until(block=[ROW], section=0, way="just", loops=2), Until((ROW,), 0, "just", 2))
        self.assertEqual(Cut(section=0, edge="right", loops=2), Cut(0, "right", 2))
        self.assertEqual(Merge(section=2), Merge(2))

    def test_base_class(self):
        for made in (Repeat, Times, Until, Cut, Merge):
            self.assertEqual(made.__bases__, (Step,))
        self.assertEqual(Step.WAYS, WAYS)
        with self.assertRaises(NotImplementedError):
            Step()

    def test_blocks(self):
        for made in self.makers():
            for value in [*only(no_list), [], ()]:
                self.fails(InvalidBlock, {"position": None}, made, value)
            self.assertEqual(len(made([ROW] * 240).block), 240)
            self.assertEqual(len(made((ROW,)).block), 1)
            self.fails(InvalidBlock, {"position": None}, made, [ROW] * 241)
            self.fails(InvalidBlock, {"position": None}, made, [None] * 241)
            for value in only(no_row):
                self.fails(InvalidBlock, {"position": 0}, made, [value, None])
                self.fails(InvalidBlock, {"position": 2}, made, (ROW, ROW, value, FOREIGN))
            self.fails(InvalidBlock, {"position": 1}, made, [ROW, FOREIGN, None])
            self.fails(InvalidBlock, {"position": 2}, made, [ROW, ROW, plain(2)])
            self.fails(InvalidBlock, {"position": 1}, made, [plain(2), ROW])
            self.assertEqual(len(made([ROW, RowText(Rested(Book(*USUAL), (), ("p",), ()))]).block), 2)
            # What a pattern does not allow is allowed in a step alone.
            self.assertEqual(len(made([row(Evenly(USUAL, ("k",), 1, "k")), row(rested("", "ktog"))]).block), 2)

    def test_numbers(self):
        self.all_fail(InvalidNumber, "value", only(no_count) + [61, FAR], lambda value: Repeat([ROW], value))
        self.assertEqual([Repeat([ROW], times).times for times in (0, 60)], [0, 60])
        wrong = only(no_integer)
        self.all_fail(InvalidNumber, "value", wrong, lambda value: Times([ROW], value, None))
        self.all_fail(InvalidNumber, "value", wrong, lambda value: Times([ROW], -FAR, value))
        wrong = only(no_count)
        self.all_fail(InvalidNumber, "value", wrong, lambda value: Until([ROW], None, None, value))
        self.all_fail(InvalidNumber, "value", wrong, lambda value: Cut(None, None, value))
        self.fails(InvalidBlock, {"position": None}, Repeat, [], None)
        self.fails(InvalidBlock, {"position": None}, Times, [], None, None)
        self.fails(InvalidBlock, {"position": 0}, Until, [None], None, None, None)

    def test_sections_ways_and_edges(self):
        wrong = only(no_count)
        self.all_fail(InvalidSection, "value", wrong, lambda value: Until([ROW], value, None, 1))
        self.all_fail(InvalidSection, "value", wrong, lambda value: Cut(value, None, 1))
        self.all_fail(InvalidSection, "value", wrong, Merge)
        for value in values() + ["Just", "at  most", "most", "atleast", Same()]:
            self.fails(InvalidWay, {"value": value}, Until, [ROW], 0, value, 1)
            self.fails(InvalidEdge, {"value": value}, Cut, 0, value, 1)
        for way in WAYS:
            self.assertEqual(Until([ROW], FAR, way, 0).way, way)
        self.assertEqual([Cut(FAR, edge, 0).edge for edge in ("right", "left")], ["right", "left"])

    def test_equality(self):
        other = RowText(rested("", "p"))
        makers = (lambda: Repeat([ROW], 1), lambda: Repeat([ROW], 2), lambda: Repeat([ROW, ROW], 1),
                  lambda: Repeat([other], 1), lambda: Times([ROW], 1, 0), lambda: Times([ROW], 0, 1),
                  lambda: Times([ROW], 1, 1), lambda: Times([other], 1, 0), lambda: Until([ROW], 0, "just", 1),
                  lambda: Until([ROW], 1, "just", 1), lambda: Until([ROW], 0, "at most", 1),
                  lambda: Until([ROW], 0, "just", 0), lambda: Until([other], 0, "just", 1),
                  lambda: Cut(0, "left", 1), lambda: Cut(1, "left", 1), lambda: Cut(0, "right", 1),
                  lambda: Cut(0, "left", 0), lambda: Merge(0), lambda: Merge(1))
        for at, one in enumerate(makers):
            for where, twin in enumerate(makers):
                self.assertIs(one() == twin(), at == where)
                self.assertIs(one() != twin(), at != where)
        for one in makers:
            self.equal_only_to(one(), one())


class TestPattern(Case):
    def test_properties(self):
        cast_on, steps = [(4, 1), (0, 0)], [Repeat([plain(2)], 3), Merge(0)]
        pattern = Pattern(USUAL, "wrong", cast_on, steps)
        cast_on.clear()
        steps.clear()
        self.assertEqual((pattern.book, pattern.way), (USUAL, "wrong"))
        self.assertEqual(pattern.cast_on, ((4, 1), (0, 0)))
        self.assertEqual(pattern.steps, (Repeat([plain(2)], 3), Merge(0)))
        self.assertEqual((type(pattern.cast_on), type(pattern.steps), len(pattern)), (tuple, tuple, 2))
        self.is_fixed(pattern, "book", "way", "cast_on", "steps")
        self.assertEqual(Pattern(book=USUAL, way="wrong", cast_on=pattern.cast_on, steps=pattern.steps), pattern)
        self.assertEqual(len(Pattern(USUAL, "round", [(0, 0)], ())), 0)

    def test_wrong_books_and_ways(self):
        for value in only(no_book):
            self.fails(InvalidBooks, {}, Pattern, value, None, None, None)
        for value in [value for value in values() if not isinstance(value, str) or value != "round"]:
            self.fails(InvalidWay, {"value": value}, Pattern, USUAL, value, None, None)
        for value in ("Round", "left", "both", "", "wrong "):
            self.fails(InvalidWay, {"value": value}, Pattern, USUAL, value, None, None)
        for way in ("round", "right", "wrong"):
            self.assertEqual(Pattern(USUAL, way, [(1, 1)], []).way, way)

    def test_wrong_cast_on(self):
        for value in [*only(no_list), [], (), [(1, 1)] * 7, [None] * 7]:
            self.fails(InvalidCastOn, {"position": None}, Pattern, USUAL, "round", value, None)
        self.assertEqual(len(Pattern(USUAL, "round", ((FAR, FAR),) * 6, []).cast_on), 6)
        wrong = [value for value in values() if not (isinstance(value, tuple) and value in ((1, 2), (0, 0)))]
        for value in [*wrong, (1,), (1, -1), (-1, 1), (True, 1), (1, False), [1, 1], (1, None), (1, 2, 3)]:
            self.fails(InvalidCastOn, {"position": 0}, Pattern, USUAL, "round", [value, None], None)
            self.fails(InvalidCastOn, {"position": 2}, Pattern, USUAL, "round", ((1, 1), (0, 0), value, None), None)

    def test_wrong_lists_of_steps(self):
        for value in [*only(no_list), [Repeat([ROW], 1)] * 201, [None] * 201]:
            self.fails(InvalidSteps, {"position": None}, Pattern, USUAL, "round", [(1, 1)], value)
        self.assertEqual(len(Pattern(USUAL, "round", [(1, 1)], [Repeat([ROW], 1)] * 200)), 200)
        steps = (Repeat, Times, Until, Cut, Merge)
        for value in [value for value in values() if not isinstance(value, steps)]:
            self.fails(InvalidSteps, {"position": 0}, Pattern, USUAL, "round", [(1, 1)], [value, None])
            self.fails(InvalidSteps, {"position": 1}, Pattern, USUAL, "round", [(1, 1)], (Cut(0, "left", 1), value))

    def refused(self, sections, position, *steps, way="round"):
        cast_on = [(1, 1)] * sections
        self.fails(InvalidSteps, {"position": position}, Pattern, USUAL, way, cast_on, list(steps))
        self.assertEqual(len(Pattern(USUAL, way, cast_on, steps[:position])), position)

    def allowed(self, sections, *steps, way="round"):
        self.assertEqual(len(Pattern(USUAL, way, [(1, 1)] * sections, steps)), len(steps))

    def test_other_books(self):
        for step in (Repeat([FOREIGN], 1), Times([FOREIGN], 1, 0), Until([FOREIGN], 0, "just", 1)):
            self.refused(1, 1, Repeat([ROW], 1), step)
        self.allowed(1, Repeat([RowText(Rested(Book(*USUAL), (), ("k",), ()))], 1))

    def test_sections(self):
        for made in (lambda many: Repeat([plain(many)], 1), lambda many: Times([plain(many)], 1, 0),
                     lambda many: Until([plain(many)], 0, "just", 1)):
            self.allowed(3, made(3))
            self.refused(3, 0, made(2))
            self.refused(3, 0, made(4))
            self.allowed(3, made(3), Cut(0, "left", 1), made(4), Merge(2), made(3))
            self.refused(3, 2, made(3), Cut(0, "left", 1), made(3))
            self.refused(3, 1, Merge(0), made(3))
        self.allowed(3, Until([plain(3)], 2, "just", 1))
        self.refused(3, 0, Until([plain(3)], 3, "just", 1))
        self.allowed(1, Cut(0, "left", 0), Cut(1, "right", 0), Cut(2, "right", FAR))
        self.refused(1, 0, Cut(1, "left", 0))
        self.refused(2, 1, Merge(0), Merge(0))
        self.refused(2, 0, Merge(1))
        self.refused(1, 0, Merge(0))
        self.allowed(6, *[Merge(0)] * 5)
        self.refused(6, 5, *[Merge(0)] * 6)
        self.allowed(6, Merge(4), Cut(4, "left", 1))
        self.refused(6, 0, Merge(5))
        self.allowed(5, Cut(4, "right", 1))
        self.refused(6, 0, Cut(0, "right", 1))
        self.refused(5, 1, Cut(0, "right", 1), Cut(0, "right", 1))

    def test_steady_blocks(self):
        double, half = rested("", "kfb"), rested("", "ktog")
        for made in (lambda *rows: Times(rows, 1, 0), lambda *rows: Until(rows, 0, "just", 1)):
            self.allowed(1, made(row(double), row(half)))
            self.allowed(1, made(row(half), row(PLAIN), row(double)))
            self.refused(1, 0, made(row(double)))
            self.refused(1, 0, made(row(half)))
            self.refused(1, 0, made(row(double), row(double), row(half)))
            self.refused(2, 0, made(row(double, PLAIN), row(PLAIN, half)))
            self.refused(2, 0, made(row(PLAIN, double), row(PLAIN, PLAIN)))
            self.allowed(2, made(row(double, half), row(half, double)))
            self.refused(1, 0, made(row(Evenly(USUAL, ("k",), 1, "k"))))
            self.refused(2, 0, made(row(PLAIN, PLAIN), row(PLAIN, Evenly(USUAL, ("k",), 1, "k"))))
            self.refused(1, 0, made(row(rested("", "bo"))))
            self.allowed(1, made(row(rested("bo", "ktog yo", "cdd"))))
            self.allowed(1, made(row(rested("bo k", "")), row(Kept(USUAL, ("bo",), ("k", "p"), ()))))
            self.allowed(1, made(row(rested("", "k k kfb")), row(rested("", "ktog k k"))))
            self.refused(1, 0, made(row(rested("", "k k kfb")), row(rested("", "ktog k"))))
            self.allowed(1, made(*[row(double)] * 120, *[row(half)] * 120))
            self.refused(1, 0, made(*[row(double)] * 119, *[row(half)] * 121))
            # Slopes that are 0 and slopes that are not do not make up for each other.
            self.refused(1, 0, made(row(rested("", "bo")), row(double)))
        # In a REPEAT all this is allowed.
        self.allowed(1, Repeat([row(double)], 1), Repeat([row(Evenly(USUAL, ("k",), 1, "k"))], 1))

    def test_drawn_slopes(self):
        chance = drawn(141)
        seen = [0, 0]
        for _ in range(400):
            rows, top, bottom = [], 1, 1
            for _ in range(chance.randint(1, 4)):
                word = drawn_word(chance, ["k", "ktog", "kfb"], 2) + (chance.choice(["k", "ktog", "kfb"]),)
                rows.append(RowText(Rested(USUAL, (), word, ())))
                top, bottom = top * USUAL.made(word), bottom * USUAL.taken(word)
            seen[top == bottom] += 1
            for step in (Times(rows, 1, 1), Until(rows, 0, "just", 0)):
                if top == bottom:
                    self.allowed(1, step)
                else:
                    self.refused(1, 0, step)
        self.assertGreater(min(seen), 50)

    def test_backs(self):
        cdd, kfb, good = rested("cdd", "k"), rested("", "kfb", "kfb"), rested("", "ktog yo", "bo")
        kept = Kept(USUAL, ("kfb",), ("k",), ("cdd",))
        for way in ("right", "wrong"):
            for steps, name in (
                ([Repeat([row(cdd)], 0)], "cdd"), ([Repeat([row(good)], 1), Repeat([row(kept)], 1)], "kfb"),
                ([Repeat([row(good), row(good), row(kfb), row(cdd)], 1)], "kfb"),
                ([Times([row(rested("k", "k", "k cdd kfb"))], -1, 0)], "cdd"),
                ([Cut(0, "right", 1), Repeat([row(PLAIN, kfb)], 1), Repeat([row(cdd, PLAIN)], 1)], "kfb"),
                ([Cut(0, "right", 1), Repeat([row(PLAIN, kfb), row(cdd, PLAIN)], 1)], "kfb"),
                ([Until([row(rested("k", "k", "cdd"))], 0, "just", 1)], "cdd"),
                ([Repeat([row(Evenly(USUAL, ("k", "cdd"), 1, "k"))], 1)], "cdd"),
            ):
                self.fails(NoBack, {"name": name}, Pattern, USUAL, way, [(1, 1)], steps)
                self.assertEqual(len(Pattern(USUAL, "round", [(1, 1)], steps)), len(steps))
                # A wrong step behind it goes ahead.
                self.fails(InvalidSteps, {"position": len(steps)}, Pattern, USUAL, way, [(1, 1)], [*steps, None])
            self.allowed(1, Repeat([row(good)], 1), way=way)
        # The words are looked at in the sequence of the text: before, repeated, after; the deed, then the plain stitch.
        book = Book(Kind("a", 1, 1), Kind("b", 1, 1), Kind("c", 1, 1), Kind("d", 1, 1, back="d"))
        for text, name in (
            (Rested(book, ("d", "b"), ("a",), ("c",)), "b"), (Rested(book, (), ("d", "c"), ("a",)), "c"),
            (Rested(book, (), ("d",), ("d", "a")), "a"), (Kept(book, ("d",), ("d", "c", "a"), ("b",), shift=2), "c"),
            (Evenly(book, ("d", "c"), 2, "a"), "c"), (Evenly(book, ("d",), 2, "a"), "a"),
        ):
            self.fails(NoBack, {"name": name}, Pattern, book, "right", [(1, 1)], [Repeat([RowText(text)], 1)])

    def test_sections_at(self):
        pattern = Pattern(USUAL, "round", [(5, 1)], [Cut(0, "left", 1), Repeat([plain(2)], 1), Cut(1, "right", 1), Merge(0)])
        self.assertEqual([pattern.sections_at(step) for step in range(5)], [1, 2, 2, 3, 2])
        self.assertEqual(pattern.sections_at(step=0), 1)
        self.all_fail(InvalidNumber, "value", only(no_count) + [6, FAR], pattern.sections_at)
        self.assertEqual(Pattern(USUAL, "round", [(1, 1)] * 6, []).sections_at(0), 6)
        self.fails(InvalidNumber, {"value": 1}, Pattern(USUAL, "round", [(1, 1)], []).sections_at, 1)

    def test_with_steps(self):
        pattern = Pattern(USUAL, "right", [(5, 1)], [Cut(0, "left", 1)])
        more = pattern.with_steps(Repeat([plain(2)], 1), Merge(0))
        self.assertEqual(more, Pattern(USUAL, "right", [(5, 1)], [Cut(0, "left", 1), Repeat([plain(2)], 1), Merge(0)]))
        self.assertEqual((len(pattern), pattern.with_steps()), (1, pattern))
        self.fails(InvalidSteps, {"position": 1}, pattern.with_steps, Repeat([plain(1)], 1))
        self.fails(InvalidSteps, {"position": 3}, more.with_steps, Merge(0))
        self.fails(InvalidSteps, {"position": 4}, more.with_steps, Repeat([plain(1)], 1), None, None)
        for value in [value for value in values() if not isinstance(value, (Repeat, Times, Until, Cut, Merge))]:
            self.fails(InvalidSteps, {"position": 2}, pattern.with_steps, Merge(0), value)
        self.fails(InvalidSteps, {"position": None}, more.with_steps, *[Repeat([plain(1)], 1)] * 198)
        self.fails(InvalidSteps, {"position": None}, more.with_steps, *[None] * 198)
        self.assertEqual(len(more.with_steps(*[Repeat([plain(1)], 1)] * 197)), 200)
        self.fails(NoBack, {"name": "cdd"}, more.with_steps, Repeat([row(rested("", "cdd"))], 1))

    def test_equality(self):
        steps = [Repeat([ROW], 1)]
        pattern = Pattern(USUAL, "right", [(1, 2)], steps)
        self.equal_only_to(pattern, Pattern(Book(*USUAL), "right", ((1, 2),), tuple(steps)))
        for other in (Pattern(USUAL, "wrong", [(1, 2)], steps), Pattern(USUAL, "right", [(2, 1)], steps),
                      Pattern(USUAL, "right", [(1, 2)], steps * 2), Pattern(USUAL, "right", [(1, 2)], [Repeat([ROW], 2)]),
                      Pattern(OTHER_BOOK, "round", [(1, 2)], [])):
            self.assertTrue(pattern != other)
            self.assertFalse(pattern == other)
        self.assertTrue(Pattern(USUAL, "round", [(1, 2)], []) != Pattern(OTHER_BOOK, "round", [(1, 2)], []))


if __name__ == "__main__":
    unittest.main()
