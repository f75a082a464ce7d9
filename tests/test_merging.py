"""Sketches worked and merged: [72], [73], [74], AT THE SAME TIME, FAR, and the interface of merging.py."""

import unittest
from itertools import islice

from sketcher import Sketcher, drawn_sketch
from support import Case, FAR, OTHER_BOOK, USUAL, drawn, no_count, no_sketch, only
from stitchsizes.errors import InvalidNumber, InvalidSketch, NoRow, TooMany
from stitchsizes.longwords import LongWord
from stitchsizes.merging import SketchWork, merged, sketch_through, sketch_weight
from stitchsizes.patterns import Cut, Merge, Pattern, Repeat, Times, Until
from stitchsizes.rows import RowText
from stitchsizes.schedules import Along, Schedule, Sketch
from stitchsizes.sections import Evenly, Kept, Rested
from stitchsizes.sizes import Sizes
from stitchsizes.working import Work, outcome_at

BIG = 10 ** 25
EVERY = Sizes.whole()


def rested(before, repeated, after=""):
    return Rested(USUAL, *[tuple(words.split()) for words in (before, repeated, after)])


def kept(repeated, shift=0):
    return Kept(USUAL, (), tuple(repeated.split()), (), shift=shift)


PLAIN = rested("", "k")
ROW = RowText(PLAIN)
RIB = RowText(kept("k p p"))


def does(deed, edge="right", first=0, every=1, section=0, **ending):
    return Schedule(section, edge, tuple(deed.split()), first, every, **ending)


def sketch(cast_on, *steps, way="round"):
    return Sketch(USUAL, way, [cast_on] if isinstance(cast_on[0], int) else cast_on, steps)


def is_in(part, size):
    modulus, residue, first, last, _ = part
    return size >= first and (last is None or size <= last) and size % modulus == residue


def start_of(part):
    modulus, residue, first, _, _ = part
    return first + (residue - first) % modulus


def letters(work):
    """The rows of a small work, with runs of names apart."""
    return [" ".join(row.letters(0, 400)) for row in work.each_row()]


class TestRows(Case):
    """Rows of ALONGs, written out."""

    def check(self, told, size, rows, outcome):
        work = SketchWork(told, size)
        self.assertEqual((letters(work), work.outcome), (rows, outcome))
        self.assertEqual(work.row_count, len(rows))
        knitter = Sketcher(told, size)
        self.assertEqual(([" ".join(names) for names, _, _ in knitter.rows], knitter.told()), (rows, outcome))

    def test_times(self):
        along = Along([ROW], [does("ktog", first=1, every=2, times=(1, 1))])
        self.check(sketch((5, 0), along), 0, ["k k k k k", "ktog k k k"], ("through", 2, (4,)))
        self.check(sketch((5, 0), along), 1, ["k k k k k", "ktog k k k", "k k k k", "ktog k k"], ("through", 4, (3,)))
        none = Along([ROW], [does("ktog", times=(0, 0)), does("ktog", times=(-4, 0))])
        self.check(sketch((5, 0), none), 9, [], ("through", 0, (5,)))
        # It ends with the last of its schedules.
        two = Along([ROW], [does("bo", times=(1, 0)), does("k", "left", 2, 3, times=(2, 0)), does("bo", times=(0, 0))])
        self.check(sketch((3, 0), two), 0, ["bo k k", "k k", "k k", "k k", "k k", "k k"], ("through", 6, (2,)))

    def test_until(self):
        along = Along([ROW], [does("ssk", "left", 1, 2, until=3)])
        self.check(sketch((5, 0), along), 0, ["k k k k k", "k k k ssk", "k k k k", "k k ssk", "k k k"], ("through", 5, (3,)))
        # It is looked at the loops in the rows that it meets, not ahead of others.
        self.check(sketch((3, 0), along), 0, ["k k k"], ("through", 1, (3,)))
        # It stays ended when the loops become more again.
        more = Along([ROW], [does("yo", times=(3, 0)), does("ssk", "left", 0, 1, until=1)])
        self.check(sketch((1, 0), more), 0, ["yo k", "yo k k", "yo k k k"], ("through", 3, (4,)))
        # What another schedule takes counts too.
        both = Along([ROW], [does("bo", times=(9, 0)), does("ssk", "left", 0, 2, until=4)], rows=(4, 0))
        self.check(sketch((8, 0), both), 0, ["bo k k k k k ssk", "bo k k k k k", "bo k k ssk", "bo k k"],
                   ("through", 4, (2,)))

    def test_rows(self):
        along = Along([ROW], [does("bo", every=2, times=(2, 0))], rows=(2, 1))
        self.check(sketch((3, 0), along), 0, ["bo k k", "k k"], ("through", 2, (2,)))
        self.check(sketch((3, 0), along), 3, ["bo k k", "k k", "bo k", "k", "k"], ("through", 5, (1,)))
        for rows in ((0, 0), (-3, 2)):
            self.check(sketch((3, 0), Along([ROW], [does("bo", times=(2, 0))], rows=rows)), 1, [], ("through", 0, (3,)))

    def test_edges_of_sections(self):
        """Of several deeds at one edge the first one is outermost."""
        schedules = [does("ktog", times=(1, 0)), does("p yo", "left", times=(1, 0)), does("bo", times=(1, 0)),
                     does("ssk yo", "left", times=(1, 0))]
        self.check(sketch((9, 0), Along([ROW], schedules)), 0, ["ktog bo k k k ssk yo p yo"], ("through", 1, (8,)))
        sections = [does("bo", "left", section=1, times=(1, 0)), does("ktog", section=0, times=(1, 0)),
                    does("yo", section=1, times=(1, 0))]
        self.check(sketch([(3, 0), (2, 0)], Along([RowText(PLAIN, rested("", "p"))], sections)), 0, ["ktog k yo p bo"],
                   ("through", 1, (2, 2)))

    def test_bases(self):
        base = [RowText(rested("p", "k", "p")), ROW]
        along = Along(base, [does("bo", "left", 0, 2, times=(2, 0))])
        self.check(sketch((6, 0), along), 0, ["p k k k p bo", "k k k k k", "p k k p bo"], ("through", 3, (4,)))
        pairs = Along([RowText(rested("", "ktog yo"))], [does("bo bo", every=2, times=(2, 0))])
        self.check(sketch((6, 0), pairs), 0, ["bo bo ktog yo ktog yo", "ktog yo ktog yo", "bo bo ktog yo"],
                   ("through", 3, (2,)))
        less = Along([RowText(rested("ktog", "k"))], [does("p", times=(2, 0))])
        self.check(sketch((5, 0), less), 0, ["p ktog k k", "p ktog k"], ("through", 2, (3,)))

    def test_kept_in_line(self):
        """The stitches over a loop stay the same while the right edge moves."""
        right = Along([RIB], [does("bo", times=(4, 0))])
        self.check(sketch((7, 0), right), 0, ["bo p p k p p k", "bo p k p p k", "bo k p p k", "bo p p k"],
                   ("through", 4, (3,)))
        left = Along([RIB], [does("bo", "left", times=(2, 0))])
        self.check(sketch((7, 0), left), 0, ["k p p k p p bo", "k p p k p bo"], ("through", 2, (5,)))
        more = Along([RIB], [does("yo", times=(2, 0), every=2), does("ktog k", first=1, times=(1, 0))])
        self.check(sketch((4, 0), more), 0, ["yo k p p k", "ktog k p k", "yo k p p k"], ("through", 3, (5,)))
        shifted = Along([RowText(kept("k p p", 2)), ROW], [does("bo", times=(3, 0))])
        self.check(sketch((5, 0), shifted), 0, ["bo k p p k", "bo k k k", "bo p k"], ("through", 3, (2,)))
        # An ALONG begins in line with its own shift.
        self.check(sketch((5, 0), *[Along([RIB], [does("bo", times=(1, 0))])] * 2), 0, ["bo p p k p", "bo p p k"],
                   ("through", 2, (3,)))

    def test_bases_of_just_so_many_loops(self):
        two = RowText(rested("p p", ""), PLAIN)
        along = Along([two], [does("bo", section=1, times=(2, 1))])
        self.check(sketch([(2, 0), (3, 0)], along), 0, ["p p bo k k", "p p bo k"], ("through", 2, (2, 1)))
        for size in (1, 2, 50, BIG):
            told = SketchWork(sketch([(2, 0), (3, 1)], along), size)
            self.assertEqual(told.outcome, ("through", 2 + size, (2, 1)))
            self.assertEqual(SketchWork(sketch([(2, 1), (3, 1)], along), size).outcome, ("fails", 0))
        moving = Along([two], [does("ktog", times=(9, 9)), does("k", section=1, until=0)])
        self.check(sketch([(4, 0), (1, 0)], moving), 0, ["ktog p p k"], ("fails", 1))
        self.check(sketch([(3, 0), (1, 0)], moving), 0, [], ("fails", 0))
        self.assertEqual(SketchWork(sketch([(4, 0), (1, 1)], moving), BIG).outcome, ("fails", 1))
        self.assertEqual(sketch_through(sketch([(1, 1), (9, 0)], Along([two], [does("k", times=(0, 5))]))), Sizes.of(0, 2))
        endless = Along([two], [does("k", section=1, until=0)])
        self.assertEqual(SketchWork(sketch([(2, 0), (1, 0)], endless), 0).outcome, ("endless",))
        self.assertEqual(SketchWork(sketch([(3, 0), (1, 0)], endless), 0).outcome, ("fails", 0))

    def test_until_within_a_period(self):
        """The loops are fewest in the middle of the period, or at its beginning."""
        waves = [ROW, RowText(rested("ktog ktog", "k")), ROW, RowText(rested("yo yo", "k"))]
        along = Along(waves, [does("k", until=9)])
        for loops, rows, left in ((9, 0, 9), (10, 2, 8), (11, 2, 9)):
            self.assertEqual(SketchWork(sketch((loops, 0), along), 0).outcome, ("through", rows, (left,)))
            self.assertEqual(Sketcher(sketch((loops, 0), along), 0).told(), ("through", rows, (left,)))
        self.assertEqual(SketchWork(sketch((12, 0), along), 0).outcome, ("endless",))
        rising = Along([RowText(rested("yo yo", "k")), RowText(rested("ktog ktog", "k"))], [does("bo", until=5)])
        for size in range(12):
            told = sketch((9, 1), rising)
            self.assertEqual(SketchWork(told, size).outcome, Sketcher(told, size).told())
            part, = [part for part in merged(told) if is_in(part, size)]
            self.assertEqual(outcome_at(part[4], (size - start_of(part)) // part[0]), Sketcher(told, size).told())
        # Ahead of rows 0, 2, 4 .. there are 9 + n loops, and two less each time; ahead of the others one more.
        self.assertEqual(SketchWork(sketch((9, 2), rising), BIG).outcome, ("through", 2 * BIG + 4, (5,)))

    def test_failing(self):
        along = Along([ROW], [does("ktog", times=(9, 0)), does("ssk", "left", first=1, times=(1, 0))])
        self.check(sketch((5, 0), along), 0, ["ktog k k k", "ktog ssk", "ktog"], ("fails", 3))
        self.check(sketch((4, 0), along), 0, ["ktog k k"], ("fails", 1))
        # The deeds take what is there, but the base text needs more, or does not fit.
        edge = Along([RowText(rested("p", "k"))], [does("bo", times=(9, 0))])
        self.check(sketch((3, 0), edge), 0, ["bo p k", "bo p"], ("fails", 2))
        pairs = Along([RowText(rested("", "k k"))], [does("bo", times=(9, 0))])
        self.check(sketch((5, 0), pairs), 0, ["bo k k k k"], ("fails", 1))
        sections = Along([RowText(PLAIN, PLAIN)], [does("bo", times=(9, 0)), does("bo bo", section=1, times=(9, 0))])
        told = SketchWork(sketch([(2, 0), (5, 0)], sections), 0)
        self.assertEqual((told.outcome, told.counts(2), told.row_count), (("fails", 2), (0, 1), 2))

    def test_other_steps(self):
        along = Along([ROW], [does("bo", times=(1, 1))])
        self.check(sketch((4, 0), Repeat([RowText(rested("", "p"))], 1), along, Repeat([RowText(rested("", "p"))], 1)), 0,
                   ["p p p p", "bo k k k", "p p p"], ("through", 3, (3,)))
        self.check(sketch((4, 0), Cut(0, "right", 3), Along([RowText(PLAIN, PLAIN)], [does("bo", times=(1, 0))]), Merge(0),
                          Times([ROW], -1, 1)), 2, ["bo k k k", "k k k"], ("through", 2, (3,)))
        twice = Along([RowText(PLAIN, PLAIN)], [does("bo", times=(1, 0))])
        self.check(sketch((4, 0), along, Cut(0, "left", 4), twice), 0, ["bo k k k"], ("fails", 1))
        self.check(sketch((4, 0)), 5, [], ("through", 0, (4,)))

    def test_endless(self):
        for steps in ([Along([ROW], [does("yo", until=4)])], [Along([ROW], [does("k", every=5, until=4)])],
                      [Along([ROW], [does("k", until=4), does("bo", "left", times=(2, 0)), does("yo", times=(9, 0))])],
                      [Until([ROW], 0, "just", 4), Along([ROW], [does("yo", until=4)])]):
            work = SketchWork(sketch((9, 0), *steps), 3)
            self.assertEqual((work.outcome, work.row_count), (("endless",), None))
            rows = [names for names, _, _ in Sketcher(sketch((9, 0), *steps), 3).rows][:50]
            self.assertEqual([row.letters(0, 400) for row in islice(work.each_row(), len(rows))], rows)
            self.assertEqual(work.row(BIG).takes, sum(work.counts(BIG)))
        # Loops that stay none go on for ever, too, and what fails some time is not endless.
        nothing = Along([RowText(PLAIN, PLAIN)], [does("k", section=1, until=3)])
        self.assertEqual(SketchWork(sketch([(0, 0), (4, 0)], nothing), 0).outcome, ("endless",))
        self.assertEqual(SketchWork(sketch([(0, 1), (4, 0)], nothing), BIG).outcome, ("endless",))
        growing = Along([RowText(PLAIN, PLAIN)], [does("k", section=1, until=3), does("yo", times=(0, 1))])
        self.assertEqual(SketchWork(sketch([(0, 0), (4, 0)], growing), 0).outcome, ("endless",))
        rising = Along([RowText(rested("yo", "k"), PLAIN)], [does("k", section=1, until=3)])
        self.assertEqual(SketchWork(sketch([(0, 0), (4, 0)], rising), 7).outcome, ("endless",))
        failing = Along([RowText(rested("ktog", "k"), PLAIN)], [does("k", section=1, until=3)])
        self.assertEqual(SketchWork(sketch([(5, 1), (4, 0)], failing), BIG).outcome, ("fails", BIG + 4))


class TestFar(Case):
    def test_example(self):
        along = Along([ROW], [does("ktog", every=4, times=(3, 0)), does("ssk", "left", 2, 6, until=12)])
        sleeve = sketch((20, 2), along)
        self.assertEqual(SketchWork(sketch=sleeve, size=0).outcome, ("through", 32, (12,)))
        self.assertEqual(SketchWork(sleeve, 10 ** 20).outcome, ("through", 12 * 10 ** 20 + 32, (12,)))
        for size in (0, 1, 2, 3, 10, BIG, FAR):
            self.assertEqual(SketchWork(sleeve, size).outcome, ("through", 32 + 12 * size, (12,)))
        self.assertEqual(sketch_through(sleeve), EVERY)

    def test_told(self):
        for size in (0, 1, 5, 23, BIG, BIG + 1):
            # The last of the rows that are met is row 7 + 5 * n.
            times = sketch((9, 3), Along([ROW], [does("ktog", first=2, every=5, times=(2, 1))]))
            self.assertEqual(SketchWork(times, size).outcome, ("through", 8 + 5 * size, (7 + 2 * size,)))
            # Two loops less in each fifth row until there are 12: ahead of row 1 + 5 * (n + 4).
            until = sketch((20, 2), Along([ROW], [does("ssk ssk", "left", 1, 5, until=12)]))
            self.assertEqual(SketchWork(until, size).outcome, ("through", 5 * size + 21, (12,)))
            rows = sketch((20, 2), Along([ROW], [does("yo", every=3, times=(0, FAR))], rows=(1, 6)))
            wanted = 20 + 2 * size + (2 * size + 1 if size else 0)
            self.assertEqual(SketchWork(rows, size).outcome, ("through", 6 * size + 1, (wanted,)))
            short = sketch((5, 1), Along([ROW], [does("ktog", times=(FAR * 2, 0))]))
            self.assertEqual(SketchWork(short, size).outcome, ("fails", size + 4))
            both = Along([ROW], [does("bo", times=(0, 2)), does("bo", "left", every=2, until=7)])
            left = 7 + 3 * size
            self.assertEqual(SketchWork(sketch((7, 5), both), size).outcome, self.worked(left + 2 * size, 2 * size, 7))

    def worked(self, loops, times, until):
        """One loop less in each of the first rows, and one more in every second row until there are so many."""
        row = times + times % 2
        halves = row // 2
        if loops - times - halves <= until:
            # All is over ahead of this row, or some row before.
            row, halves = times, (times + 1) // 2
            while loops - times - halves < until:
                halves -= 1
            return ("through", max(times, 2 * halves + 1 if halves else 0), (loops - times - halves,))
        rest = loops - times - halves - until
        return ("through", row + 2 * rest, (until,))

    def test_far_rows(self):
        along = Along([RIB, ROW], [does("ktog", every=4, times=(0, 1)), does("ssk", "left", 1, 6, until=10)])
        told = sketch((3, 2), along, Repeat([ROW], 2))
        size = 3 * BIG
        work = SketchWork(told, size)
        for row in (0, 1, 11, 12, 12 * 10 ** 20, 12 * 10 ** 20 + 5):
            meets = (row + 3) // 4 + (row + 4) // 6
            self.assertEqual(work.counts(row), (3 + 2 * size - meets,))
        row = 12 * 10 ** 20
        loops = work.counts(row)[0]
        moved = row // 4 + 2
        first = ["k", "p", "p"][moved % 3:] + ["k", "p", "p"][:moved % 3]
        self.assertEqual(work.row(row).letters(0, 5), ["ktog", *(first * 2)[:4]])
        self.assertEqual(work.row(row).takes, loops)
        self.assertEqual(work.outcome[2], (10,))

    def test_merged_far(self):
        """At far sizes the parts have the rows that the sketch has there."""
        chance = drawn(185)
        for _ in range(150):
            told = drawn_sketch(chance)
            if sketch_weight(told) > 360:
                continue
            parts, through = merged(told), sketch_through(told)
            for size in (chance.randint(0, BIG), chance.randint(0, 10 ** 4), FAR):
                found = [part for part in parts if is_in(part, size)]
                self.assertEqual(len(found), 1)
                work = SketchWork(told, size)
                part = Work(found[0][4], (size - start_of(found[0])) // found[0][0])
                self.assertEqual((part.outcome[0], part.row_count), (work.outcome[0], work.row_count))
                if work.outcome[0] == "through":
                    self.assertEqual(part.outcome, work.outcome)
                self.assertEqual(size in through, work.outcome[0] == "through")
                most = BIG if work.row_count is None else work.row_count
                for row in {chance.randrange(most) for _ in range(3) if most}:
                    self.assertEqual((part.row(row), part.counts(row)), (work.row(row), work.counts(row)))


class TestDrawn(Case):
    def test_drawn(self):
        """Sketches and their parts at small sizes against a knitter."""
        chance = drawn(181)
        seen = {"through": 0, "fails": 0, "endless": 0, "flat": 0, "parts": 0}
        for _ in range(450):
            told = drawn_sketch(chance)
            if sketch_weight(told) > 360:
                continue
            parts, through = merged(told), sketch_through(told)
            self.assert_parts(told, parts, through)
            seen["flat"] += told.way != "round"
            seen["parts"] += len(parts) > 1
            for size in {0, chance.randint(1, 9), chance.randint(1, 9), chance.randint(10, 20)}:
                knitter = Sketcher(told, size)
                seen[knitter.told()[0]] += 1
                self.check(knitter, SketchWork(told, size), chance)
                found = [part for part in parts if is_in(part, size)]
                self.assertEqual(len(found), 1)
                self.check_part(knitter, found[0][4], (size - start_of(found[0])) // found[0][0], chance)
                self.assertEqual(size in through, knitter.told()[0] == "through")
        self.assertGreater(min(seen.values()), 30, seen)

    def some_rows(self, knitter, chance):
        rows = len(knitter.rows) if knitter.told()[0] != "endless" else min(200, len(knitter.rows))
        return {*range(min(rows, 4)), *(chance.randrange(rows) for _ in range(6) if rows), *([rows - 1] if rows else [])}

    def check(self, knitter, work, chance):
        self.assertEqual(work.outcome, knitter.told())
        self.assertEqual(work.row_count, None if knitter.told()[0] == "endless" else len(knitter.rows))
        for row in self.some_rows(knitter, chance):
            names, counts, _ = knitter.rows[row]
            self.assertEqual(work.row(row), LongWord.of(USUAL, *names))
            self.assertEqual(work.counts(row), counts)
        if knitter.told()[0] != "endless":
            self.assertEqual(work.counts(len(knitter.rows)), knitter.counts())

    def check_part(self, knitter, pattern, size, chance):
        outcome, told = outcome_at(pattern, size), knitter.told()
        if told[0] == "through":
            self.assertEqual(outcome, told)
        else:
            self.assertEqual(outcome[:len(told)] if told[0] == "fails" else outcome[:1], told)
        work = Work(pattern, size)
        for row in self.some_rows(knitter, chance):
            self.assertEqual(work.row(row), LongWord.of(USUAL, *knitter.rows[row][0]))

    def assert_parts(self, told, parts, through):
        """The parts are stretches that contain each size once."""
        self.assertIs(type(parts), list)
        left = EVERY
        for part in parts:
            self.assertEqual((type(part), len(part)), (tuple, 5))
            sizes = Sizes(part[:4])
            self.assertEqual(sizes.least(), start_of(part))
            self.assertFalse(sizes - left)
            left = left - sizes
            self.assertIs(type(part[4]), Pattern)
            self.assertEqual((part[4].book, part[4].way), (told.book, told.way))
        self.assertFalse(left)
        self.assertIs(type(through), Sizes)

    def test_lines_of_later_periods(self):
        """The KEPT texts of a period depend on how far the edge was moved ahead of it."""
        along = Along([RIB], [does("bo", times=(0, 1)), does("p", "left", times=(30, 0))])
        told = sketch((20, 1), along)
        parts = merged(told)
        for size in range(12):
            part, = [part for part in parts if is_in(part, size)]
            knitter = Sketcher(told, size)
            rows = list(Work(part[4], (size - start_of(part)) // part[0]).each_row())
            self.assertEqual(rows, [LongWord.of(USUAL, *names) for names, _, _ in knitter.rows])

    def test_each_row(self):
        chance = drawn(182)
        for _ in range(40):
            told = drawn_sketch(chance)
            if sketch_weight(told) <= 360:
                rows = [LongWord.of(USUAL, *names) for names, _, _ in Sketcher(told, 3).rows[:60]]
                self.assertEqual(list(islice(SketchWork(told, 3).each_row(), len(rows))), rows)

    def test_repeated(self):
        told = sketch((20, 2), Along([RIB], [does("ktog", every=4, times=(3, 1)), does("ssk", "left", 2, 6, until=12)]))
        self.assertEqual(merged(told), merged(told))
        self.assertEqual(sketch_through(told), sketch_through(told))


class TestEdges(Case):
    def test_greatest_sketches(self):
        """Twelve steps, four of them ALONGs with the longest periods, six schedules each."""
        schedules = [does("k", "right", 60, 24, times=(1, 5)), does("p", "left", 59, 8, times=(40, 0)),
                     does("bo", "right", 7, 1, until=30), does("yo", "left", 0, 1, times=(9, 0)),
                     does("k p", "right", 0, 3, times=(50, 0)), does("k", "left", 31, 2, times=(3, 60))]
        along = Along([ROW] * 10, schedules)
        told = sketch((90, 120), *[Repeat([ROW], 1), Repeat([ROW], 2), along] * 4)
        self.assertEqual(len(told), 12)
        parts = merged(told)
        self.assertLessEqual(max(len(part[4]) for part in parts), 200)
        for size in (0, 1, 2, 7, 100, BIG):
            found = [part for part in parts if is_in(part, size)]
            work = SketchWork(told, size)
            self.assertEqual(outcome_at(found[0][4], (size - start_of(found[0])) // found[0][0]), work.outcome)
            if size < 8:
                self.assertEqual(work.outcome, Sketcher(told, size).told())

    def test_greatest_words(self):
        long = ("k",) * 160
        base = [RowText(Rested(USUAL, long, ("k",), long))]
        deeds = [does("p " * 12, edge, times=(2, 0)) for edge in ("right", "left") for _ in range(3)]
        work = SketchWork(sketch((500, 1), Along(base, deeds)), 0)
        self.assertEqual(work.outcome, ("through", 2, (500,)))
        self.assertEqual(work.row(1), LongWord(USUAL, [(("p",), 36), (("k",), 428), (("p",), 36)]))

    def test_rows_at_all_sizes(self):
        """A number of rows that is no multiple of the period: a part for each remainder."""
        told = sketch((9, 0), Along([ROW] * 5, [does("k", every=24, times=(0, 1))], rows=(0, 1)))
        parts = merged(told)
        for size in (0, 1, 119, 120, 121, 300, BIG, BIG + 1):
            self.assertEqual(len([part for part in parts if is_in(part, size)]), 1)
            self.assertEqual(SketchWork(told, size).outcome, ("through", size, (9,)))
        self.assertEqual(sketch_through(told), EVERY)

    def test_through(self):
        until = Along([RowText(rested("", "k k"))], [does("bo bo", until=4)])
        self.assertEqual(sketch_through(sketch((4, 1), until)), Sizes((2, 0, 0, None)))
        short = sketch((9, 1), Along([ROW], [does("ktog", times=(0, 2))]))
        self.assertEqual(sketch_through(short), Sizes((1, 0, 0, 8)))
        self.assertEqual(sketch_through(sketch((9, 1), Along([ROW], [does("yo", until=BIG)]))), Sizes((1, 0, 0, BIG - 9)))
        self.assertEqual(sketch_through(sketch((9, 1), Cut(0, "left", 11))), Sizes((1, 0, 2, None)))
        self.assertEqual(sketch_through(sketch=sketch((0, 0))), EVERY)
        # What fits once does not fit again.
        pairs = Along([RowText(rested("", "k k"))], [does("bo", times=(0, 1))])
        self.assertEqual(sketch_through(sketch((5, 0), pairs)), Sizes.of(0, 1))
        for deed, loops in (("ktog", 4), ("yo", 2)):
            just = Along([RowText(rested("p p", ""))], [does(deed, times=(0, 1))])
            self.assertEqual(sketch_through(sketch((loops, 0), just)), Sizes.of(0, 1))
        # What would end the rows first is the limit at small sizes, and the schedule at great ones.
        ends = sketch((5, 1), Along([ROW], [does("bo", times=(30, 0))], rows=(10, 2)))
        self.assertEqual(sketch_through(ends), Sizes((1, 0, 25, None)))
        for size in (0, 9, 10, 24, 25, 26):
            self.assertEqual(SketchWork(ends, size).outcome, Sketcher(ends, size).told())
        part, = [part for part in merged(ends) if is_in(part, BIG)]
        self.assertEqual(outcome_at(part[4], (BIG - start_of(part)) // part[0]), ("through", 2 * BIG + 10, (BIG - 25,)))


class TestErrors(Case):
    def test_weights(self):
        three = RowText(kept("k p p"))
        even = Repeat([RowText(Evenly(USUAL, ("yo",), 4, "k"))], 2)
        for steps, weight in (
            ([], 1), ([Along([ROW], [does("k", every=24, times=(1, 0))])], 1),
            ([Along([ROW], [does("ktog", every=24, times=(0, 0))])], 24),
            ([Along([three, ROW], [does("bo bo", every=2, times=(0, 0)), does("yo", every=4, until=0)])], 48),
            ([Along([three, three, three], [does("ktog yo", every=4, until=0)])], 27),
            ([Along([RowText(rested("ktog", "k k k k", "yo"))], [does("kfb kfb yo", every=3, until=0)])], 36),
            ([Along([RowText(rested("k k", ""))], [does("k", times=(1, 0))], rows=(5, 5))], 1),
            ([even, Along([ROW], [does("ktog", every=2, times=(1, 0))]), even], 50),
            ([Until([RowText(rested("ktog ktog ktog", "k"))], 0, "at most", 3)], 3),
            ([Repeat([RowText(rested("", "ktog"))], 3), Cut(0, "left", 1), Merge(0)], 8),
        ):
            self.assertEqual(sketch_weight(sketch=sketch((5, 5), *steps)), weight)

    def test_too_heavy(self):
        def heavy(*many):
            return sketch((9, 9), *[Along([ROW], [does("ktog", every=every, times=(1, 0))]) for every in many])
        for told in (heavy(24, 15), heavy(20, 18)):
            self.assertEqual(sketch_weight(told), 360)
            self.assertEqual(SketchWork(told, 0).outcome, ("through", 2, (7,)))
            self.assertEqual((len(merged(told)) > 0, sketch_through(told)), (True, EVERY))
        for told in (heavy(19, 19), heavy(24, 24, 24, 24)):
            self.assertGreater(sketch_weight(told), 360)
            for call in (merged, sketch_through, lambda told: SketchWork(told, 0)):
                self.fails(TooMany, {"what": "weight", "limit": 360}, call, told)
            self.fails(InvalidNumber, {"value": -1}, SketchWork, told, -1)

    def test_wrong_sketches_and_sizes(self):
        good = sketch((1, 1))
        for call in (merged, sketch_through, sketch_weight, lambda value: SketchWork(value, None)):
            self.all_fail(InvalidSketch, "value", only(no_sketch), call)
        self.all_fail(InvalidNumber, "value", only(no_count), lambda value: SketchWork(good, value))
        merged(sketch=good)

    def test_properties(self):
        told = sketch((20, 4), Repeat([ROW], 3))
        work = SketchWork(told, 6)
        self.assertEqual((work.sketch, work.size, work.outcome, work.row_count), (told, 6, ("through", 3, (44,)), 3))
        self.is_fixed(work, "sketch", "size", "outcome", "row_count")
        self.assertEqual(work.outcome, ("through", 3, (44,)))

    def test_no_rows(self):
        for told, rows in ((sketch((5, 0), Along([ROW], [does("bo", times=(3, 0))])), 3),
                           (sketch((5, 0), Along([ROW], [does("ktog", times=(9, 0))])), 4),
                           (sketch((5, 0), Cut(0, "left", 6)), 0)):
            work = SketchWork(told, 1)
            self.assertEqual(work.row_count, rows)
            self.all_fail(NoRow, "number", only(no_count) + [rows, rows + 1, FAR], work.row)
            self.all_fail(NoRow, "number", only(no_count) + [rows + 1, FAR], work.counts)
            self.assertEqual(len(work.counts(number=rows)), 1)
        endless = SketchWork(sketch((5, 0), Along([ROW], [does("k", until=4)])), 0)
        for call in (endless.row, endless.counts):
            self.all_fail(NoRow, "number", only(no_count), call)

    def test_other_books(self):
        text = RowText(Rested(OTHER_BOOK, (), ("k",), ()))
        told = Sketch(OTHER_BOOK, "round", [(2, 0)], [Along([text], [Schedule(0, "left", ("p",), 0, 1, times=(2, 0))])])
        self.assertEqual(letters(SketchWork(told, 0)), ["k p", "k p"])


if __name__ == "__main__":
    unittest.main()
