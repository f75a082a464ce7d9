"""Schedules, alongs and sketches as they are made and refused: [71], [74], and the interface of schedules.py."""

import unittest

from support import (
    Case, FAR, OTHER_BOOK, USUAL, Same, Touchy, no_book, no_count, no_list, no_row, only, values,
)
from stitchsizes.errors import (
    InvalidBlock, InvalidBooks, InvalidCastOn, InvalidEdge, InvalidNumber, InvalidSchedules, InvalidSection,
    InvalidSteps, InvalidWay, InvalidWord, NoBack, TooMany,
)
from stitchsizes.kinds import Book, Kind
from stitchsizes.patterns import Cut, Merge, Pattern, Repeat, Step, Times, Until
from stitchsizes.rows import RowText
from stitchsizes.schedules import Along, Schedule, Sketch
from stitchsizes.sections import Evenly, Kept, Rested

PLAIN = Rested(USUAL, (), ("k",), ())
ROW = RowText(PLAIN)
FOREIGN = RowText(Rested(OTHER_BOOK, (), ("k",), ()))


def rested(before, repeated, after=""):
    return Rested(USUAL, *[tuple(words.split()) for words in (before, repeated, after)])


def plain(many):
    return RowText(*[PLAIN] * many)


def schedule(section=0, edge="right", deed=("ktog",), first=0, every=1, **ending):
    return Schedule(section, edge, deed, first, every, **(ending or {"until": 4}))


def along(sections=1, many=1, **more):
    return Along([plain(sections)], [schedule(times=(1, 0))] * many, **more)


def is_int(value):
    return isinstance(value, int) and not isinstance(value, bool)


class TestSchedule(Case):
    def test_properties(self):
        made = Schedule(3, "left", ("ktog", "k"), 60, 24, times=(-3, 2))
        self.assertEqual((made.section, made.edge, made.deed, made.first, made.every), (3, "left", ("ktog", "k"), 60, 24))
        self.assertEqual((made.times, made.until), ((-3, 2), None))
        other = Schedule(section=FAR, edge="right", deed=("nowhere",), first=0, every=1, until=0)
        self.assertEqual((other.section, other.first, other.every, other.times, other.until), (FAR, 0, 1, None, 0))
        for name in ("section", "edge", "deed", "first", "every", "times", "until"):
            self.is_fixed(made, name)
        self.assertEqual(made.section, 3)
        self.assertEqual(Schedule(0, "left", ("k",) * 12, 0, 1, times=(-FAR, FAR)).times, (-FAR, FAR))

    def test_wrong_sections_and_edges(self):
        self.all_fail(InvalidSection, "value", only(no_count), lambda value: Schedule(value, None, None, None, None))
        for value in values() + ["Right", "top", Same()]:
            self.fails(InvalidEdge, {"value": value}, Schedule, 0, value, None, None, None)

    def test_wrong_deeds(self):
        good = [("k",), ("k", "p"), ("ktog", "abcdefgh")]
        wrong = [value for value in values() if not (isinstance(value, tuple) and value in good)]
        for value in [*wrong, ("k",) * 13, ["k"], (), ("k", ""), ("k", "K"), ("abcdefghi",), ("k", 1), (b"k",), ("k ",)]:
            self.fails(InvalidWord, {"value": value}, Schedule, 0, "right", value, None, None)
        for value in [*good, ("k",) * 12, ("nowhere",)]:
            self.assertEqual(Schedule(0, "right", value, 0, 1, until=1).deed, value)

    def test_wrong_numbers(self):
        wrong = [value for value in values() if not is_int(value) or not 0 <= value <= 60]
        for value in [*wrong, 61, FAR, -1]:
            self.fails(InvalidNumber, {"value": value}, Schedule, 0, "right", ("k",), value, None)
        wrong = [value for value in values() if not is_int(value) or not 1 <= value <= 24]
        for value in [*wrong, 0, 25, FAR]:
            self.fails(InvalidNumber, {"value": value}, Schedule, 0, "right", ("k",), 0, value)
        for first, every in ((0, 1), (60, 24)):
            made = schedule(first=first, every=every)
            self.assertEqual((made.first, made.every), (first, every))

    def test_wrong_ends(self):
        good = [(1, 2), (0, 0)]
        wrong = [value for value in values() if value is not None and not (isinstance(value, tuple) and value in good)]
        for value in [*wrong, (1,), (1, -1), (1, 2, 3), [1, 2], (True, 1), (1, True), (None, 1), (1, None), ("1", 1)]:
            self.fails(InvalidNumber, {"value": value}, Schedule, 0, "left", ("k",), 0, 1, times=value)
            self.fails(InvalidNumber, {"value": value}, Schedule, 0, "left", ("k",), 0, 1, times=value, until=Touchy)
        for value in [value for value in only(no_count) if value is not None]:
            self.fails(InvalidNumber, {"value": value}, Schedule, 0, "left", ("k",), 0, 1, until=value)
            self.fails(InvalidNumber, {"value": value}, Schedule, 0, "left", ("k",), 0, 1, times=(1, 1), until=value)
        self.fails(InvalidNumber, {"value": None}, Schedule, 0, "left", ("k",), 0, 1)
        self.fails(InvalidNumber, {"value": None}, Schedule, 0, "left", ("k",), 0, 1, times=None, until=None)
        self.fails(InvalidNumber, {"value": 3}, Schedule, 0, "left", ("k",), 0, 1, times=(1, 1), until=3)
        with self.assertRaises(TypeError):
            Schedule(0, "left", ("k",), 0, 1, (1, 1))

    def test_equality(self):
        makers = (lambda: schedule(), lambda: schedule(section=1), lambda: schedule(edge="left"),
                  lambda: schedule(deed=("ssk",)), lambda: schedule(first=1), lambda: schedule(every=2),
                  lambda: schedule(until=5), lambda: schedule(times=(4, 0)), lambda: schedule(times=(0, 4)))
        for at, one in enumerate(makers):
            for where, twin in enumerate(makers):
                self.assertIs(one() == twin(), at == where)
            self.equal_only_to(one(), one())


class TestAlong(Case):
    def test_properties(self):
        base, schedules = [ROW, RowText(rested("k", "k"))], [schedule(), schedule(times=(1, 1))]
        made = Along(base, schedules, rows=(-5, 3))
        base.clear()
        schedules.clear()
        self.assertEqual(made.base, (ROW, RowText(rested("k", "k"))))
        self.assertEqual(made.schedules, (schedule(), schedule(times=(1, 1))))
        self.assertEqual((type(made.base), type(made.schedules), made.rows), (tuple, tuple, (-5, 3)))
        self.assertIsNone(Along(base=(ROW,), schedules=(schedule(),)).rows)
        self.is_fixed(made, "base", "schedules", "rows")
        self.assertIsInstance(made, Step)
        self.assertEqual(Along.__bases__, (Step,))

    def test_blocks(self):
        for value in [*only(no_list), [], (), [ROW] * 25, [None] * 25]:
            self.fails(InvalidBlock, {"position": None}, Along, value, None)
        self.assertEqual(len(Along([ROW] * 24, [schedule()]).base), 24)
        for value in only(no_row):
            self.fails(InvalidBlock, {"position": 0}, Along, [value, None], None)
            self.fails(InvalidBlock, {"position": 2}, Along, (ROW, ROW, value, FOREIGN), None)
        self.fails(InvalidBlock, {"position": 1}, Along, [ROW, FOREIGN], None)
        self.fails(InvalidBlock, {"position": 1}, Along, [ROW, plain(2)], None)
        twin = RowText(Rested(Book(*USUAL), (), ("p",), ()))
        self.assertEqual(len(Along([ROW, twin], [schedule()]).base), 2)

    def test_base_texts(self):
        kept = Kept(USUAL, (), ("k", "p"), (), shift=1)
        long = ("k",) * 160
        for text in (kept, rested("", "k"), rested("ktog yo yo", "ktog yo", "bo"), rested("k k", ""), rested("bo", "", "bo"),
                     Rested(USUAL, long, ("k",), long), rested("", "k k kfb ktog")):
            self.assertEqual(len(Along([RowText(text)], [schedule()]).base), 1)
            self.assertEqual(len(Along([plain(2), RowText(PLAIN, text)], [schedule()]).base), 2)
        for text in (Kept(USUAL, ("k",), ("k",), ()), Kept(USUAL, (), ("k",), ("k",)), rested("", "ktog"),
                     rested("", "kfb"), rested("", "bo"), rested("", "k k kfb"), Rested(USUAL, long + ("k",), ("k",), ()),
                     Rested(USUAL, (), ("k",), long + ("k",)), Evenly(USUAL, ("k",), 1, "k")):
            self.fails(InvalidBlock, {"position": 0}, Along, [RowText(text), None], None)
            self.fails(InvalidBlock, {"position": 1}, Along, [plain(2), RowText(PLAIN, text), None], None)
            self.fails(InvalidBlock, {"position": 1}, Along, [plain(2), RowText(text, PLAIN)], None)

    def test_schedules(self):
        for value in [*only(no_list), [], (), [schedule(times=(1, 1))] * 7, [None] * 7]:
            self.fails(InvalidSchedules, {"position": None}, Along, [ROW], value)
        self.assertEqual(len(along(many=6).schedules), 6)
        for value in [value for value in values() if not isinstance(value, Schedule)]:
            self.fails(InvalidSchedules, {"position": 0}, Along, [ROW], [value, None])
            self.fails(InvalidSchedules, {"position": 1}, Along, [ROW], (schedule(), value))
        self.fails(InvalidSchedules, {"position": 1}, Along, [plain(2)], [schedule(section=1), schedule(section=2)])
        self.fails(InvalidSchedules, {"position": 0}, Along, [ROW], [schedule(section=FAR)])
        self.fails(InvalidSchedules, {"position": 1}, Along, [ROW], [schedule(), schedule(deed=("k", "nowhere"), times=(1, 1))])
        other = Along([FOREIGN], [schedule(deed=("p",))])
        self.assertEqual(other.schedules[0].deed, ("p",))
        self.fails(InvalidSchedules, {"position": 0}, Along, [FOREIGN], [schedule()])

    def test_one_until(self):
        until, times = schedule(), schedule(times=(1, 0))
        self.assertEqual(len(Along([ROW], [times, until, times, times]).schedules), 4)
        self.fails(InvalidSchedules, {"position": 1}, Along, [ROW], [until, until])
        self.fails(InvalidSchedules, {"position": 2}, Along, [ROW], [until, times, schedule(edge="left", until=9), None])
        two = Along([plain(2)], [until, schedule(section=1), schedule(section=1, times=(1, 1))])
        self.assertEqual(len(two.schedules), 3)
        self.fails(InvalidSchedules, {"position": 3}, Along, [plain(2)], [until, schedule(section=1), times, schedule(section=1)])

    def test_rows(self):
        good = [(1, 2), (0, 0)]
        wrong = [value for value in values() if value is not None and not (isinstance(value, tuple) and value in good)]
        for value in [*wrong, (1,), (1, -1), (1, 2, 3), [1, 2], (True, 1), (1, True), (None, 1), 5]:
            self.fails(InvalidNumber, {"value": value}, Along, [ROW] * 23, [schedule(every=24)], rows=value)
        for value in (None, (-FAR, 0), (FAR, FAR), (0, 0)):
            self.assertEqual(Along([ROW], [schedule()], rows=value).rows, value)
        with self.assertRaises(TypeError):
            Along([ROW], [schedule()], (1, 1))

    def test_periods(self):
        def made(rows, every, *lengths):
            texts = [Kept(USUAL, (), ("k",) * length, ()) for length in lengths] or [PLAIN]
            return Along([RowText(*texts)] * rows, [schedule(every=number, times=(1, 0)) for number in every])
        for rows, every, lengths in ((1, [1], [240]), (10, [24, 8, 6], []), (1, [15, 16], []), (24, [5, 1, 2], [1, 2]),
                                     (5, [4, 3], [4, 2]), (1, [24, 5], [2, 1]), (24, [20], [2]), (2, [3], [8, 5])):
            self.assertEqual(len(made(rows, every, *lengths).base), rows)
        for rows, every, lengths in ((1, [1], [120, 239]), (11, [24], []), (1, [16, 17], []), (5, [4, 3], [5]),
                                     (24, [5, 2], [3]), (23, [22], []), (7, [8, 9, 5, 11], [3, 7])):
            with self.assertRaises(TooMany):
                made(rows, every, *lengths)
        self.fails(TooMany, {"what": "period", "limit": 240}, Along, [ROW] * 23, [schedule(every=22)])
        # A RESTED text and the deeds do not count.
        self.assertEqual(len(Along([RowText(rested("", "k " * 23))] * 24, [schedule(every=10)]).base), 24)

    def test_equality(self):
        makers = (lambda: along(), lambda: along(2), lambda: along(many=2), lambda: along(rows=(1, 1)),
                  lambda: along(rows=(1, 2)), lambda: Along([ROW, ROW], [schedule(times=(1, 0))]),
                  lambda: Along([ROW], [schedule()]), lambda: Along([RowText(rested("", "p"))], [schedule(times=(1, 0))]))
        for at, one in enumerate(makers):
            for where, twin in enumerate(makers):
                self.assertIs(one() == twin(), at == where)
            self.equal_only_to(one(), one())


class TestSketch(Case):
    def test_properties(self):
        cast_on, steps = [(4, 1), (0, 0)], [along(2), Merge(0), along()]
        sketch = Sketch(USUAL, "wrong", cast_on, steps)
        cast_on.clear()
        steps.clear()
        self.assertEqual((sketch.book, sketch.way, sketch.cast_on), (USUAL, "wrong", ((4, 1), (0, 0))))
        self.assertEqual(sketch.steps, (along(2), Merge(0), along()))
        self.assertEqual((type(sketch.cast_on), type(sketch.steps), len(sketch)), (tuple, tuple, 3))
        self.is_fixed(sketch, "book", "way", "cast_on", "steps")
        self.assertEqual(Sketch(book=USUAL, way="wrong", cast_on=sketch.cast_on, steps=sketch.steps), sketch)
        self.assertEqual(len(Sketch(USUAL, "round", [(0, 0)], ())), 0)

    def test_wrong_books_ways_and_cast_ons(self):
        for value in only(no_book):
            self.fails(InvalidBooks, {}, Sketch, value, None, None, None)
        for value in [value for value in values() if not isinstance(value, str) or value != "round"] + ["left", "Round"]:
            self.fails(InvalidWay, {"value": value}, Sketch, USUAL, value, None, None)
        for value in [*only(no_list), [], [(1, 1)] * 7]:
            self.fails(InvalidCastOn, {"position": None}, Sketch, USUAL, "round", value, None)
        for value in ((1,), (1, -1), (True, 1), [1, 1], None):
            self.fails(InvalidCastOn, {"position": 1}, Sketch, USUAL, "round", [(1, 1), value, None], None)

    def test_wrong_steps(self):
        for value in [*only(no_list), [Repeat([ROW], 1)] * 13, [None] * 13]:
            self.fails(InvalidSteps, {"position": None}, Sketch, USUAL, "round", [(1, 1)], value)
        self.assertEqual(len(Sketch(USUAL, "round", [(1, 1)], [Repeat([ROW], 1)] * 12)), 12)
        steps = (Repeat, Times, Until, Cut, Merge, Along)
        for value in [value for value in values() if not isinstance(value, steps)]:
            self.fails(InvalidSteps, {"position": 1}, Sketch, USUAL, "round", [(1, 1)], (Cut(0, "left", 1), value))

    def refused(self, sections, position, *steps):
        cast_on = [(1, 1)] * sections
        self.fails(InvalidSteps, {"position": position}, Sketch, USUAL, "round", cast_on, list(steps))
        self.assertEqual(len(Sketch(USUAL, "round", cast_on, steps[:position])), position)

    def test_steps_of_patterns(self):
        good = [Repeat([ROW], 2), Times([ROW], 1, 1), Until([ROW], 0, "just", 1), Cut(0, "left", 1), along(2), Merge(0)]
        self.assertEqual(Sketch(USUAL, "round", [(1, 1)], good).steps, tuple(good))
        self.refused(1, 1, Cut(0, "left", 1), Repeat([ROW], 1))
        self.refused(1, 0, Merge(0))
        self.refused(6, 0, Cut(0, "left", 1))
        self.refused(1, 0, Times([RowText(rested("", "ktog"))], 1, 0))
        self.refused(1, 0, Until([ROW], 1, "just", 1))
        self.refused(1, 0, Repeat([FOREIGN], 1))

    def test_alongs(self):
        self.refused(1, 0, along(2))
        self.refused(2, 1, along(2), along(1))
        self.refused(1, 1, along(), Along([FOREIGN], [schedule(deed=("k",))]))
        twin = Along([RowText(Rested(Book(*USUAL), (), ("k",), ()))], [schedule()])
        self.assertEqual(len(Sketch(USUAL, "round", [(1, 1)], [twin] * 4)), 4)
        self.refused(1, 4, *[along()] * 5)
        self.refused(1, 6, along(), Repeat([ROW], 1), along(), along(), Repeat([ROW], 1), along(), along(), None)
        # An along is no step of a pattern, and a sketch is no pattern.
        self.fails(InvalidSteps, {"position": 1}, Pattern, USUAL, "round", [(1, 1)], [Repeat([ROW], 1), along()])
        self.fails(InvalidSteps, {"position": 0}, Pattern(USUAL, "round", [(1, 1)], []).with_steps, along())
        self.assertNotIsInstance(Sketch(USUAL, "round", [(1, 1)], []), Pattern)
        self.assertNotIsInstance(Pattern(USUAL, "round", [(1, 1)], []), Sketch)

    def test_backs(self):
        book = Book(*[Kind(name, 1, 1) for name in "abc"], Kind("d", 1, 1, back="d"))

        def sketch(way, *words):
            base = [RowText(Rested(book, (), word, ())) for word in words[0]]
            schedules = [Schedule(0, "left", word, 0, 1, times=(1, 1)) for word in words[1]]
            return Sketch(book, way, [(1, 1)], [Along(base, schedules)])
        for words, name in (
            (([("d",), ("d", "b")], [("a",)]), "b"), (([("d",)], [("d",), ("d", "c"), ("a",)]), "c"),
            (([("c",)], [("a",)]), "c"), (([("d",)], [("a",)]), "a"),
        ):
            for way in ("right", "wrong"):
                self.fails(NoBack, {"name": name}, sketch, way, *words)
            self.assertEqual(len(sketch("round", *words)), 1)
        self.assertEqual(len(sketch("right", [("d",)], [("d",)])), 1)
        block = Repeat([RowText(Rested(book, (), ("a",), ()))], 1)
        base = Along([RowText(Rested(book, (), ("d",), ()))], [Schedule(0, "left", ("b",), 0, 1, times=(1, 1))])
        for steps, name in (([block, base], "a"), ([base, block], "b"), ([Cut(0, "left", 0), Merge(0), block], "a")):
            self.fails(NoBack, {"name": name}, Sketch, book, "wrong", [(1, 1)], steps)
            self.fails(InvalidSteps, {"position": len(steps)}, Sketch, book, "wrong", [(1, 1)], [*steps, None])

    def test_equality(self):
        steps = [along()]
        sketch = Sketch(USUAL, "right", [(1, 2)], steps)
        self.equal_only_to(sketch, Sketch(Book(*USUAL), "right", ((1, 2),), tuple(steps)))
        for other in (Sketch(USUAL, "wrong", [(1, 2)], steps), Sketch(USUAL, "right", [(2, 1)], steps),
                      Sketch(USUAL, "right", [(1, 2)], steps * 2), Sketch(USUAL, "right", [(1, 2)], [along(rows=(1, 1))]),
                      Sketch(USUAL, "right", [(1, 2)], [])):
            self.assertFalse(sketch == other)
            self.assertTrue(sketch != other)
        self.assertFalse(Sketch(USUAL, "round", [(1, 2)], []) == Sketch(OTHER_BOOK, "round", [(1, 2)], []))
        self.assertFalse(Sketch(USUAL, "round", [(1, 2)], []) == Pattern(USUAL, "round", [(1, 2)], []))


if __name__ == "__main__":
    unittest.main()
