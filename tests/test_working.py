"""Work at one size: [53], [64], TO ITS END, FAR, and the interface of working.py."""

import unittest
from itertools import islice

from knitter import FLAT, Knitter, drawn_pattern
from support import Case, FAR, USUAL, drawn, no_count, no_pattern, only
from stitchsizes.errors import InvalidNumber, InvalidPattern, NoRow, NotThrough, TooMany
from stitchsizes.fabrics import Fabric
from stitchsizes.kinds import Book, Kind
from stitchsizes.longwords import LongWord
from stitchsizes.patterns import Cut, Merge, Pattern, Repeat, Times, Until
from stitchsizes.rows import RowText
from stitchsizes.sections import Evenly, Kept, Rested
from stitchsizes.working import Work, outcome_at, yarn_at

BIG = 10 ** 25


def rested(before, repeated, after=""):
    return Rested(USUAL, *[tuple(words.split()) for words in (before, repeated, after)])


PLAIN = rested("", "k")
LESS = RowText(rested("ktog", "k", "ssk"))
MORE = RowText(rested("k yo", "k", "yo k"))
ROW = RowText(PLAIN)


def pattern(cast_on, *steps, way="round"):
    return Pattern(USUAL, way, [cast_on] if isinstance(cast_on[0], int) else cast_on, steps)


class TestExamples(Case):
    def test_hat(self):
        hat = pattern((20, 4), Until([LESS, ROW], 0, "at most", 8))
        self.assertEqual(outcome_at(hat, 0), ("through", 12, (8,)))
        self.assertEqual(outcome_at(hat, 10 ** 20), ("through", 4 * 10 ** 20 + 12, (8,)))
        odd = pattern((20, 4), Until([LESS, ROW], 0, "just", 7))
        self.assertEqual(outcome_at(odd, 0), ("fails", 18, 0, 9, 0, 0, 2))
        self.assertEqual(outcome_at(odd, BIG), ("fails", 18 + 4 * BIG, 0, 9 + 2 * BIG, 0, 0, 2))

    def test_no_steps(self):
        work = Work(pattern((20, 4)), 2)
        self.assertEqual((work.outcome, work.row_count), (("through", 0, (28,)), 0))
        self.assertEqual((work.counts(0), list(work.each_row()), work.fabric()), ((28,), [], Fabric(USUAL, 28)))
        self.assertEqual(yarn_at(pattern((20, 4)), 2), 0)
        for call in (work.row, work.worked_row, work.place):
            self.fails(NoRow, {"number": 0}, call, 0)
        self.assertEqual(outcome_at(pattern([(FAR, FAR), (0, 0)]), FAR), ("through", 0, (FAR + FAR * FAR, 0)))

    def test_repeat(self):
        for times in (0, 1, 2, 60):
            work = Work(pattern((BIG, 0), Repeat([LESS, ROW], times)), 3)
            self.assertEqual(work.outcome, ("through", 2 * times, (BIG - 2 * times,)))
        double = RowText(rested("", "kfb"))
        self.assertEqual(outcome_at(pattern((1, 1), Repeat([double], 60)), 2), ("through", 60, (3 * 2 ** 60,)))
        half = RowText(rested("", "ktog"))
        self.assertEqual(outcome_at(pattern((3 * 2 ** 40, 0), Repeat([half], 60)), 0), ("fails", 40, 0, 40, 0, 0, 3))
        even = RowText(Evenly(USUAL, ("yo",), 3, "k"))
        self.assertEqual(outcome_at(pattern((0, 1), Repeat([even], 60)), BIG), ("through", 60, (BIG + 180,)))

    def test_times(self):
        for p, q, size, rounds in ((3, 0, 5, 3), (0, 0, 5, 0), (-1, 0, 5, 0), (-7, 2, 3, 0), (-7, 2, 4, 1), (-7, 2, 5, 3),
                                   (4, -1, 2, 2), (4, -1, 4, 0), (4, -1, FAR, 0), (-BIG, 1, BIG, 0), (-BIG, 1, BIG + 1, 1),
                                   (-BIG, 1, BIG + 2, 2), (5, 3, BIG, 3 * BIG + 5), (1, 0, 0, 1), (2, 0, 0, 2)):
            told = outcome_at(pattern((2, 0), Times([MORE, ROW], p, q)), size)
            self.assertEqual(told, ("through", 2 * rounds, (2 + 2 * rounds,)))
        fails = pattern((7, 2), Times([ROW, LESS], BIG, 0))
        self.assertEqual(outcome_at(fails, 10 ** 20), ("fails", 2 * (10 ** 20 + 2) + 1, 0, 10 ** 20 + 2, 1, 0, 3))

    def test_until(self):
        for way, loops, wanted in (
            ("just", 20, ("through", 0, (20,))), ("at most", 20, ("through", 0, (20,))),
            ("at least", 20, ("through", 0, (20,))), ("at most", 21, ("through", 0, (20,))),
            ("at least", 19, ("through", 0, (20,))), ("just", 18, ("through", 2, (18,))),
            ("at most", 19, ("through", 2, (18,))), ("at most", 17, ("through", 4, (16,))),
            ("at most", 4, ("through", 16, (4,))), ("just", 2, ("through", 18, (2,))),
            ("just", 1, ("fails", 18, 0, 9, 0, 0, 2)), ("just", 19, ("fails", 18, 0, 9, 0, 0, 2)),
            ("at most", 1, ("fails", 18, 0, 9, 0, 0, 2)), ("at least", 21, ("fails", 18, 0, 9, 0, 0, 2)),
        ):
            self.assertEqual(outcome_at(pattern((20, 0), Until([LESS, ROW], 0, way, loops)), 9), wanted, (way, loops))
        for way, loops, wanted in (
            ("just", 24, ("through", 4, (24,))), ("just", 25, ("endless", 0)), ("just", 19, ("endless", 0)),
            ("at least", 25, ("through", 6, (26,))), ("at least", BIG, ("through", BIG - 20, (BIG,))),
            ("at least", BIG + 1, ("through", BIG - 18, (BIG + 2,))), ("just", BIG, ("through", BIG - 20, (BIG,))),
            ("at most", 19, ("endless", 0)), ("at most", 20, ("through", 0, (20,))),
        ):
            self.assertEqual(outcome_at(pattern((20, 0), Until([MORE, ROW], 0, way, loops)), 9), wanted, (way, loops))
        for way, loops in (("just", 3), ("at most", 4), ("at least", 6)):
            self.assertEqual(outcome_at(pattern((5, 0), Until([ROW], 0, way, loops)), 0), ("endless", 0))

    def test_failing_for_other_reasons(self):
        pairs = rested("", "ktog yo")
        self.assertEqual(outcome_at(pattern((9, 0), Times([RowText(pairs)], 5, 0)), 0), ("fails", 0, 0, 0, 0, 0, 9))
        block = [RowText(pairs), RowText(rested("ktog", "k"))]
        self.assertEqual(outcome_at(pattern((BIG, 0), Times(block, 5, 0)), 0), ("fails", 2, 0, 1, 0, 0, BIG - 1))
        only_five = [RowText(rested("k k k k k", "")), RowText(rested("yo", "k"))]
        self.assertEqual(outcome_at(pattern((5, 0), Times(only_five, BIG, 0)), 0), ("fails", 2, 0, 1, 0, 0, 6))
        self.assertEqual(outcome_at(pattern((5, 0), Times(only_five[:1], BIG, 0)), 0), ("through", BIG, (5,)))
        self.assertEqual(outcome_at(pattern((5, 0), Until(only_five[:1], 0, "just", 4)), 0), ("endless", 0))
        # The first section that does not fit, and the first row of the round.
        both = [RowText(PLAIN, rested("ktog", "k")), RowText(rested("ktog", "k"), PLAIN)]
        for counts, wanted in (((5, 5), ("fails", 8, 0, 4, 0, 1, 1)), ((4, 5), ("fails", 7, 0, 3, 1, 0, 1)),
                               ((3, 5), ("fails", 5, 0, 2, 1, 0, 1)), ((9, 2), ("fails", 2, 0, 1, 0, 1, 1))):
            self.assertEqual(outcome_at(pattern([(loops, 0) for loops in counts], Times(both, FAR, 0)), 0), wanted)
        same = [RowText(rested("ktog", "k"), rested("ktog", "k"))]
        self.assertEqual(outcome_at(pattern([(5, 0), (5, 0)], Times(same, FAR, 0)), 0), ("fails", 4, 0, 4, 0, 0, 1))
        self.assertEqual(outcome_at(pattern([(6, 0), (5, 0)], Times(same, FAR, 0)), 0), ("fails", 4, 0, 4, 0, 1, 1))

    def test_until_against_failing(self):
        # The look ahead of a round goes ahead of its failing.
        for loops, wanted in ((2, ("through", 18, (2,))), (1, ("fails", 18, 0, 9, 0, 0, 2))):
            self.assertEqual(outcome_at(pattern((20, 0), Until([LESS, ROW], 0, "at most", loops)), 0), wanted)
        two = [RowText(rested("k yo", "k"), rested("ktog", "k"))]
        for loops, wanted in ((14, ("through", 9, (14, 1))), (15, ("fails", 9, 0, 9, 0, 1, 1)),
                              (13, ("through", 8, (13, 2)))):
            self.assertEqual(outcome_at(pattern([(5, 0), (10, 0)], Until(two, 0, "at least", loops)), 0), wanted)
        # A section that is not looked at can be what fails; an UNTIL can fail in the first rounds, too.
        self.assertEqual(outcome_at(pattern([(5, 0), (0, 0)], Until(two, 0, "at least", 9)), 0),
                         ("fails", 0, 0, 0, 0, 1, 0))
        self.assertEqual(outcome_at(pattern([(5, 0), (2, 0)], Until(two, 0, "just", 9)), 0), ("fails", 1, 0, 1, 0, 1, 1))

    def test_cuts_and_merges(self):
        steps = [Repeat([ROW], 2), Cut(0, "right", 4), Repeat([RowText(PLAIN, rested("ktog", "k"))], 3), Merge(0),
                 Repeat([ROW], 1)]
        work = Work(pattern((10, 0), *steps), 0)
        self.assertEqual(work.outcome, ("through", 6, (7,)))
        self.assertEqual([work.counts(number) for number in range(7)],
                         [(10,), (10,), (4, 6), (4, 5), (4, 4), (7,), (7,)])
        self.assertEqual([work.place(number) for number in range(6)],
                         [(0, 0, 0), (0, 1, 0), (2, 0, 0), (2, 1, 0), (2, 2, 0), (4, 0, 0)])
        fails = Work(pattern((10, 0), *steps[:2], Cut(1, "left", 7), *[Repeat([RowText(PLAIN, PLAIN, PLAIN)], 1)]), 0)
        self.assertEqual((fails.outcome, fails.row_count), (("fails", 2, 2, 0, 0, 1, 6), 2))
        self.assertEqual([fails.counts(number) for number in range(3)], [(10,), (10,), (4, 6)])
        self.assertEqual(outcome_at(pattern((3, 1), Cut(0, "left", 4)), 0), ("fails", 0, 0, 0, 0, 0, 3))
        self.assertEqual(outcome_at(pattern((3, 1), Cut(0, "left", 4)), 1), ("through", 0, (0, 4)))
        self.assertEqual(outcome_at(pattern((3, 1), Cut(0, "right", 4)), BIG), ("through", 0, (4, BIG - 1)))
        self.assertEqual(Work(pattern((3, 1), Cut(0, "right", 1), Merge(0)), 0).counts(0), (3,))
        self.assertEqual(Work(pattern([(1, 0)] * 6, *[Merge(0)] * 5), 0).outcome, ("through", 0, (6,)))


class TestErrors(Case):
    def test_patterns_and_sizes(self):
        good = pattern((1, 1))
        for call in (Work, outcome_at, yarn_at):
            self.all_fail(InvalidPattern, "value", only(no_pattern), lambda value: call(value, None))
            self.all_fail(InvalidNumber, "value", only(no_count), lambda value: call(good, value))
            call(pattern=good, size=FAR)

    def test_properties(self):
        hat = pattern((20, 4), Repeat([ROW], 3))
        work = Work(hat, 6)
        self.assertEqual((work.pattern, work.size, work.outcome, work.row_count), (hat, 6, ("through", 3, (44,)), 3))
        self.is_fixed(work, "pattern", "size", "outcome", "row_count")
        self.assertEqual(work.outcome, ("through", 3, (44,)))

    def test_no_rows(self):
        for told, rows in ((pattern((5, 0), Repeat([ROW], 3)), 3), (pattern((5, 0), Times([LESS], 9, 0)), 1),
                           (pattern((5, 0), Cut(0, "left", 6)), 0)):
            work = Work(told, 1)
            self.assertEqual(work.row_count, rows)
            for call in (work.row, work.worked_row, work.place):
                self.all_fail(NoRow, "number", only(no_count) + [rows, rows + 1, FAR], call)
            self.all_fail(NoRow, "number", only(no_count) + [rows + 1, FAR], work.counts)
            self.assertEqual(len(work.counts(rows)), 1)
        endless = Work(pattern((5, 0), Until([ROW], 0, "just", 4)), 0)
        self.assertIsNone(endless.row_count)
        for call in (endless.row, endless.worked_row, endless.place, endless.counts):
            self.all_fail(NoRow, "number", only(no_count), call)

    def test_not_through(self):
        for told in (pattern((5, 0), Until([ROW], 0, "just", 4)), pattern((5, 0), Cut(0, "left", 6)),
                     pattern((5, 0), Times([LESS], FAR, 0)), pattern((BIG, 0), Times([LESS], FAR, 0))):
            outcome = outcome_at(told, 0)
            self.fails(NotThrough, {"outcome": outcome}, yarn_at, told, 0)
            self.fails(NotThrough, {"outcome": outcome}, Work(told, 0).fabric)

    def test_too_many_rows(self):
        self.assertEqual(len(Work(pattern((5, 0), Times([ROW], 400, 0)), 0).fabric()), 400)
        for rows in (401, BIG):
            self.fails(TooMany, {"what": "rows", "limit": 400}, Work(pattern((5, 0), Times([ROW], rows, 0)), 0).fabric)


class TestAgainstKnitter(Case):
    def test_drawn(self):
        chance = drawn(151)
        seen = {"through": 0, "fails": 0, "endless": 0, "late": 0, "flat": 0}
        for _ in range(2500):
            told, size = drawn_pattern(chance), chance.randint(0, 8)
            knitter = Knitter(told, size)
            self.assertEqual(outcome_at(told, size), knitter.outcome)
            if len(knitter.rows) > 400:
                continue
            self.check(told, size, knitter, chance)
            seen[knitter.outcome[0]] += 1
            seen["late"] += knitter.outcome[0] == "fails" and knitter.outcome[3] > 1
            seen["flat"] += told.way != "round" and len(knitter.rows) > 1
        self.assertGreater(min(seen.values()), 50)

    def check(self, told, size, knitter, chance):
        work = Work(told, size)
        rows = len(knitter.rows)
        self.assertEqual(work.outcome, knitter.outcome)
        self.assertEqual(work.row_count, None if knitter.outcome[0] == "endless" else rows)
        for number in {*range(min(rows, 3)), *(chance.randrange(rows) for _ in range(4) if rows)}:
            letters, counts, place = knitter.rows[number]
            word = LongWord.of(USUAL, *letters)
            self.assertEqual((work.counts(number), work.place(number)), (counts, place))
            self.assertEqual(work.row(number), word)
            wrong = told.way != "round" and (told.way == "wrong") == (number % 2 == 0)
            self.assertEqual(work.worked_row(number), word.turned() if wrong else word)
        if knitter.outcome[0] != "endless":
            self.assertEqual(work.counts(rows), knitter.counts())
        seen = list(islice(work.each_row(), 12))
        self.assertEqual(seen, [LongWord.of(USUAL, *letters) for letters, _, _ in knitter.rows[:12]])
        if knitter.outcome[0] == "through":
            self.assertEqual(yarn_at(told, size), sum(len(letters) for letters, _, _ in knitter.rows))
            words = [LongWord.of(USUAL, *letters) for letters, _, _ in knitter.rows]
            self.assertEqual(work.fabric(), Fabric(USUAL, knitter.cast_on, words))

    def test_each_row_goes_on(self):
        endless = Work(pattern((5, 0), Repeat([RowText(rested("", "p"))], 1), Until([ROW, MORE], 0, "just", 4)), 0)
        rows = list(islice(endless.each_row(), 300))
        self.assertEqual([row.takes for row in rows[:6]], [5, 5, 5, 7, 7, 9])
        self.assertEqual(rows[299], endless.row(299))
        self.assertEqual(endless.counts(BIG), (5 + 2 * ((BIG - 1) // 2),))
        self.assertEqual(endless.place(BIG), (1, (BIG - 1) // 2, (BIG - 1) % 2))
        far = Work(pattern((5, 0), Times([ROW], BIG, 0)), 0)
        self.assertEqual(len(list(islice(far.each_row(), 5))), 5)


class TestYarn(Case):
    BOOK = Book(*[Kind(kind.name, kind.takes, kind.makes, back=kind.back, mirror=kind.mirror, yarn=weight)
                  for kind, weight in zip(Book.usual(), (3, 0, 7, 1, 999, 2, 5, 11, 4, 6))])

    def own(self, text):
        """The same text in the book whose kinds need unlike yarn."""
        if isinstance(text, Rested):
            return Rested(self.BOOK, text.before, text.repeated, text.after)
        if isinstance(text, Kept):
            return Kept(self.BOOK, text.before, text.repeated, text.after, shift=text.shift)
        return Evenly(self.BOOK, text.deed, text.times, text.plain)

    def own_pattern(self, told):
        steps = []
        for step in told.steps:
            if isinstance(step, (Cut, Merge)):
                steps.append(step)
                continue
            block = [RowText(*[self.own(text) for text in row.texts]) for row in step.block]
            if isinstance(step, Repeat):
                steps.append(Repeat(block, step.times))
            elif isinstance(step, Times):
                steps.append(Times(block, step.p, step.q))
            else:
                steps.append(Until(block, step.section, step.way, step.loops))
        return Pattern(self.BOOK, told.way, told.cast_on, steps)

    def test_drawn(self):
        chance = drawn(152)
        through = 0
        for _ in range(2500):
            told, size = self.own_pattern(drawn_pattern(chance)), chance.randint(0, 8)
            knitter = Knitter(told, size)
            if knitter.outcome[0] == "through":
                wanted = sum(self.BOOK.kind(name).yarn for letters, _, _ in knitter.rows for name in letters)
                self.assertEqual(yarn_at(told, size), wanted)
                through += wanted > 0
            else:
                self.fails(NotThrough, {"outcome": knitter.outcome}, yarn_at, told, size)
        self.assertGreater(through, 150)

    def test_far(self):
        book = self.BOOK
        k, p, yo = (book.kind(name).yarn for name in ("k", "p", "yo"))
        plain = Rested(book, (), ("k",), ())
        told = Pattern(book, "round", [(0, 1)], [Times([RowText(plain)], 5, 2)])
        self.assertEqual(yarn_at(told, BIG), BIG * (2 * BIG + 5) * k)
        grow = Pattern(book, "round", [(2, 0)], [Times([RowText(Rested(book, ("yo",), ("k",), ()))], 0, 1)])
        self.assertEqual(yarn_at(grow, BIG), BIG * yo + k * (2 * BIG + BIG * (BIG - 1) // 2))
        kept = Pattern(book, "round", [(0, 6)], [Times([RowText(Kept(book, (), ("k", "p", "p"), (), shift=2))], 1, 1)])
        self.assertEqual(yarn_at(kept, BIG), (BIG + 1) * (2 * BIG * k + 4 * BIG * p))
        # The ribs are cut off one by one: the number of k is that of the odd numbers up to the count.
        rib = Kept(book, ("ktog",), ("k", "p"), ())
        less = Pattern(book, "round", [(2, 2)], [Until([RowText(rib)], 0, "just", 1)])
        for size in (0, 1, 2, 7, BIG):
            wanted = (2 * size + 1) * book.kind("ktog").yarn + size * (size + 1) * k + size * size * p
            self.assertEqual(yarn_at(less, size), wanted)
        fixed = Pattern(book, "round", [(2, 0)], [Times([RowText(Rested(book, ("k", "p"), (), ()))], 1, 1)])
        self.assertEqual(yarn_at(fixed, BIG), (BIG + 1) * (k + p))
        repeat = Pattern(book, "round", [(0, 3)], [Repeat([RowText(Evenly(book, ("yo",), 2, "p"))], 2)])
        self.assertEqual(yarn_at(repeat, BIG), 4 * yo + p * (3 * BIG + 3 * BIG + 2))


def steps_apart(told, size):
    """A pattern in two, between any two of its steps: the number of steps of the first part, and both parts."""
    for at in range(len(told) + 1):
        first = Pattern(told.book, told.way, told.cast_on, told.steps[:at])
        outcome = outcome_at(first, size)
        if outcome[0] != "through":
            yield at, first, None
            continue
        way = told.way
        if way != "round" and outcome[1] % 2 == 1:
            way = "wrong" if way == "right" else "right"
        yield at, first, Pattern(told.book, way, [(loops, 0) for loops in outcome[2]], told.steps[at:])


class TestFar(Case):
    def test_cut_into_two(self):
        chance = drawn(153)
        whole = 0
        for _ in range(500):
            told = drawn_pattern(chance, 5)
            size = chance.choice([chance.randint(0, 9), chance.randint(0, BIG)])
            work = Work(told, size)
            for at, first, second in steps_apart(told, size):
                begin = Work(first, size)
                rows = begin.row_count
                for number in self.some_rows(chance, rows):
                    self.assert_same_row(begin, number, work, number)
                if second is None:
                    self.assertEqual(begin.outcome, work.outcome)
                    continue
                rest = Work(second, size)
                wanted = rest.outcome
                if wanted[0] != "endless":
                    wanted = (wanted[0], wanted[1] + rows, *wanted[2:])
                if wanted[0] == "fails":
                    wanted = (*wanted[:2], wanted[2] + at, *wanted[3:])
                if wanted[0] == "endless":
                    wanted = ("endless", wanted[1] + at)
                self.assertEqual(work.outcome, wanted)
                for number in self.some_rows(chance, rest.row_count):
                    self.assert_same_row(rest, number, work, number + rows, at)
                if wanted[0] == "through":
                    self.assertEqual(yarn_at(told, size), yarn_at(first, size) + yarn_at(second, size))
                whole += 0 < at < len(told)
        self.assertGreater(whole, 300)

    def some_rows(self, chance, rows):
        if rows == 0:
            return []
        most = BIG if rows is None else rows - 1
        return {0, most, chance.randint(0, most)}

    def assert_same_row(self, one, number, other, twin, steps=0):
        self.assertEqual(one.row(number), other.row(twin))
        self.assertEqual(one.worked_row(number), other.worked_row(twin))
        self.assertEqual(one.counts(number), other.counts(twin))
        step, times, index = one.place(number)
        self.assertEqual((step + steps, times, index), other.place(twin))

    def test_from_row_to_row(self):
        """Where the work goes on and where it stops follows from the rows beside it, also far away."""
        chance = drawn(154)
        seen = {"through": 0, "fails": 0, "endless": 0}
        for _ in range(1500):
            told = drawn_pattern(chance, 3)
            size = chance.randint(0, BIG)
            work = Work(told, size)
            seen[work.outcome[0]] += 1
            rows = work.row_count
            for number in self.some_rows(chance, rows):
                step, times, index = work.place(number)
                text = told.steps[step].block[index]
                self.assertEqual(work.row(number), text.word(work.counts(number)))
                behind = text.made(work.counts(number))
                if rows is None or number + 1 < rows:
                    after = work.place(number + 1)
                    if after[0] == step:
                        self.assertEqual(work.counts(number + 1), behind)
                        last = index + 1 == len(told.steps[step].block)
                        self.assertEqual(after, (step, times + last, 0 if last else index + 1))
                        if last and isinstance(told.steps[step], Until):
                            self.assertFalse(self.has_ended(told.steps[step], behind))
                    else:
                        self.assert_step_ends(told.steps[step], size, times, behind)
                if index == 0 and isinstance(told.steps[step], Until):
                    self.assertFalse(self.has_ended(told.steps[step], work.counts(number)))
            self.assert_stops(told, size, work)
        self.assertGreater(min(seen.values()), 40)

    def has_ended(self, step, counts):
        loops = counts[step.section]
        return {"just": loops == step.loops, "at most": loops <= step.loops, "at least": loops >= step.loops}[step.way]

    def assert_step_ends(self, step, size, times, behind):
        if isinstance(step, Until):
            self.assertTrue(self.has_ended(step, behind))
        else:
            self.assertEqual(times + 1, step.times if isinstance(step, Repeat) else step.p + step.q * size)

    def assert_stops(self, told, size, work):
        if work.outcome[0] == "through":
            self.assertEqual(work.outcome, ("through", work.row_count, work.counts(work.row_count)))
            # The last step that has rows ends behind them; all behind it do without one.
            if work.row_count:
                step, times, index = work.place(work.row_count - 1)
                counts = told.steps[step].block[index].made(work.counts(work.row_count - 1))
                self.assert_step_ends(told.steps[step], size, times, counts)
        elif work.outcome[0] == "fails":
            row, step, times, index, section, loops = work.outcome[1:]
            counts = work.counts(row)
            self.assertEqual((row, counts[section]), (work.row_count, loops))
            if isinstance(told.steps[step], Cut):
                self.assertTrue(times == index == 0 and loops < told.steps[step].loops)
            else:
                texts = told.steps[step].block[index].texts
                fits = [text.fits(count) for text, count in zip(texts, counts)]
                self.assertEqual(fits.index(False), section)
                if row and work.place(row - 1)[0] == step:
                    before = work.place(row - 1)
                    self.assertEqual((before[1], before[2]),
                                     (times, index - 1) if index else (times - 1, len(told.steps[step].block) - 1))
                else:
                    self.assertEqual((times, index), (0, 0))

    def test_far_outcomes_are_as_near_ones(self):
        """At sizes n, n + m, n + 2m .. the numbers of an outcome are linear from some size on: [62]."""
        chance = drawn(155)
        compared = {"through": 0, "fails": 0, "endless": 0}
        for _ in range(300):
            told = drawn_pattern(chance, 2, 2, 6)
            if any(abs(step.p) > 9 for step in told.steps if isinstance(step, Times)):
                continue
            first = 12 + chance.randint(0, 11)
            near = [Knitter(told, first + 12 * place) for place in range(3)]
            shapes = {(told.outcome[0], len(told.outcome)) for told in near}
            if len(shapes) > 1 or any(len(told.rows) > 4000 for told in near):
                continue
            one, two, three = [self.numbers(told.outcome) for told in near]
            if any(c - b != b - a for a, b, c in zip(one, two, three)):
                continue
            many = chance.randint(3, BIG)
            far = self.numbers(outcome_at(told, first + 12 * many))
            self.assertEqual(far, [a + (b - a) * many for a, b in zip(one, two)])
            compared[near[0].outcome[0]] += 1
        self.assertGreater(min(compared["through"], compared["fails"]), 60)

    def numbers(self, outcome):
        return [number for part in outcome[1:] for number in (part if isinstance(part, tuple) else (part,))]

    def test_far_rows(self):
        told = pattern([(6, 2), (4, 3)], Repeat([RowText(PLAIN, PLAIN)], 3),
                       Times([RowText(rested("ktog", "k"), PLAIN), RowText(PLAIN, rested("yo", "k", ""))], 1, 1),
                       Merge(0), Until([LESS, ROW, ROW], 0, "at most", 9))
        size = 2 * BIG
        begin = 3 + 2 * (size + 1)
        loops = 6 + 2 * size + 4 + 3 * size
        work = Work(told, size)
        self.assertEqual(work.counts(3 + 2 * BIG), (6 + 2 * size - BIG, 4 + 3 * size + BIG))
        self.assertEqual(work.counts(3 + 2 * BIG + 1), (6 + 2 * size - BIG - 1, 4 + 3 * size + BIG))
        self.assertEqual(work.place(3 + 2 * BIG + 1), (1, BIG, 1))
        self.assertEqual(work.counts(begin), (loops,))
        rounds = (loops - 9 + 1) // 2
        self.assertEqual(work.outcome, ("through", begin + 3 * rounds, (8,) if loops % 2 == 0 else (9,)))
        self.assertEqual(work.counts(begin + 3 * BIG + 1), (loops - 2 * BIG - 2,))
        self.assertEqual(work.place(begin + 3 * BIG + 2), (3, BIG, 2))
        self.assertEqual(work.row(begin + 3 * BIG),
                         LongWord(USUAL, [(("ktog",), 1), (("k",), loops - 2 * BIG - 4), (("ssk",), 1)]))
        flat = Work(pattern((6, 2), Times([LESS, RowText(rested("p", "k"))], 0, 1), way="wrong"), BIG)
        self.assertEqual(flat.worked_row(2 * 10 ** 20), flat.row(2 * 10 ** 20).turned())
        self.assertEqual(flat.worked_row(2 * 10 ** 20 + 1), flat.row(2 * 10 ** 20 + 1))
        self.assertEqual(flat.worked_row(number=2 * 10 ** 20).letter(0), "ssp")

    def test_great_blocks(self):
        rows = [*[ROW] * 238, LESS, RowText(rested("k yo", "k"))]
        work = Work(pattern((6, 1), Times(rows, 0, 1)), BIG)
        self.assertEqual(work.outcome, ("through", 240 * BIG, (6,)))
        self.assertEqual((work.place(240 * BIG - 1), work.counts(240 * BIG - 1)), ((0, BIG - 1, 239), (5,)))
        self.assertEqual((work.place(7 * BIG), work.counts(7 * BIG)), ((0, 7 * BIG // 240, 7 * BIG % 240),
                                                                        (6 + BIG - 7 * BIG // 240,)))
        work = Work(pattern((130, 0), Repeat(rows, 60), Repeat(rows, 60)), 0)
        self.assertEqual((work.outcome, work.counts(240 * 119 + 239)), (("through", 28800, (10,)), (9,)))
        self.assertEqual(work.place(28799), (1, 59, 239))
        work = Work(pattern((7, 0), *[Repeat([ROW], 1), Times([MORE], 0, 1)] * 100), BIG)
        self.assertEqual(work.outcome, ("through", 100 + 100 * BIG, (7 + 200 * BIG,)))
        self.assertEqual(work.place(99 * (BIG + 1)), (198, 0, 0))
        self.assertEqual(work.counts(99 * (BIG + 1) + 5), (7 + 198 * BIG + 8,))
        self.assertEqual(outcome_at(pattern((7, 0), *[Repeat([ROW], 1)] * 199, Cut(0, "left", 8)), 0),
                         ("fails", 199, 199, 0, 0, 0, 7))

    def test_flat_names(self):
        self.assertTrue(all(USUAL.kind(name).back for name in FLAT))


if __name__ == "__main__":
    unittest.main()
