"""Section texts: [21], [22] and the interface of sections.py."""

import unittest
from fractions import Fraction

from support import (
    Case, FAR, Same, Touchy, USUAL, drawn, drawn_word, is_int, no_count, no_kind_name, no_word, only, values,
)
from stitchsizes.errors import InvalidBooks, InvalidNumber, InvalidText, InvalidWord, NotFitting, UnknownKind
from stitchsizes.kinds import Book, Kind
from stitchsizes.longwords import LongWord
from stitchsizes.sections import Evenly, Kept, Rested, SectionText

NAMES = ["k", "p", "yo", "ktog", "kfb", "cdd", "bo"]
OTHER = Book(Kind("k", 1, 1, yarn=2), Kind("p", 1, 1), Kind("yo", 0, 1))


class Needle:
    """Loops that are worked one by one."""

    def __init__(self, loops):
        self.left, self.made, self.letters = loops, 0, []

    def work(self, word):
        for name in word:
            kind = USUAL.kind(name)
            self.left -= kind.takes
            self.made += kind.makes
            self.letters.append(name)


def loops_for(word):
    return sum(USUAL.kind(name).takes for name in word)


def work_rested(text, loops):
    needle = Needle(loops)
    needle.work(text.before)
    while needle.left > loops_for(text.after) and text.repeated:
        needle.work(text.repeated)
    needle.work(text.after)
    return needle if needle.left == 0 else None


def work_kept(text, loops):
    needle = Needle(loops)
    needle.work(text.before)
    place = text.shift
    while needle.left > loops_for(text.after):
        needle.work([text.repeated[place % len(text.repeated)]])
        place += 1
    needle.work(text.after)
    return needle if needle.left == 0 else None


def work_evenly(text, loops):
    needle = Needle(loops)
    rest = loops - text.times * loops_for(text.deed)
    for stitch in range(rest + 1):
        for deed in range(1, text.times + 1):
            if deed * rest // (text.times + 1) == stitch:
                needle.work(text.deed)
        if stitch < rest:
            needle.work([text.plain])
    return needle if needle.left == 0 and rest >= 0 else None


def drawn_rested(chance):
    while True:
        repeated = drawn_word(chance, NAMES, 4)
        if not repeated or loops_for(repeated):
            return Rested(USUAL, drawn_word(chance, NAMES, 3), repeated, drawn_word(chance, NAMES, 3))


def drawn_kept(chance):
    repeated = drawn_word(chance, ["k", "p"], 4) + (chance.choice(["k", "p"]),)
    shift = chance.randint(0, len(repeated) - 1)
    return Kept(USUAL, drawn_word(chance, NAMES, 3), repeated, drawn_word(chance, NAMES, 3), shift=shift)


def drawn_evenly(chance):
    deed = drawn_word(chance, NAMES, 2) + (chance.choice(NAMES),)
    return Evenly(USUAL, deed, chance.randint(1, 12), chance.choice(["k", "p"]))


class TestConstructors(Case):
    def test_rested(self):
        text = Rested(USUAL, ("k",), ("ktog", "yo"), ("p",))
        self.assertEqual((text.book, text.before, text.repeated, text.after), (USUAL, ("k",), ("ktog", "yo"), ("p",)))
        self.is_fixed(text, "book", "before", "repeated", "after")
        self.assertEqual(Rested(book=USUAL, before=("k",), repeated=("ktog", "yo"), after=("p",)), text)

    def test_kept(self):
        text = Kept(USUAL, ("k",), ("k", "p"), ("ssk",), shift=1)
        told = (text.book, text.before, text.repeated, text.after, text.shift)
        self.assertEqual(told, (USUAL, ("k",), ("k", "p"), ("ssk",), 1))
        self.is_fixed(text, "book", "before", "repeated", "after", "shift")
        self.assertEqual(Kept(book=USUAL, before=("k",), repeated=("k", "p"), after=("ssk",), shift=1), text)
        self.assertEqual(Kept(USUAL, (), ("k",), ()).shift, 0)
        with self.assertRaises(TypeError):
            Kept(USUAL, (), ("k",), (), 0)

    def test_evenly(self):
        text = Evenly(USUAL, ("ktog", "yo"), 12, "p")
        self.assertEqual((text.book, text.deed, text.times, text.plain), (USUAL, ("ktog", "yo"), 12, "p"))
        self.is_fixed(text, "book", "deed", "times", "plain")
        self.assertEqual(Evenly(book=USUAL, deed=("ktog", "yo"), times=12, plain="p"), text)

    def test_base_class(self):
        for made in (Rested, Kept, Evenly):
            self.assertEqual(made.__bases__, (SectionText,))
        with self.assertRaises(NotImplementedError):
            SectionText()

    def test_wrong_books(self):
        for value in [value for value in values() if not isinstance(value, Book)]:
            self.fails(InvalidBooks, {}, Rested, value, None, None, None)
            self.fails(InvalidBooks, {}, Kept, value, None, None, None, shift=None)
            self.fails(InvalidBooks, {}, Evenly, value, None, None, None)

    def test_wrong_words(self):
        wrong = only(no_word) + [("z",), ("k",) * 241, ["k"]]
        for made in (Rested, Kept):
            self.all_fail(InvalidWord, "value", wrong, lambda value: made(USUAL, value, None, None))
            self.all_fail(InvalidWord, "value", wrong, lambda value: made(USUAL, (), value, None))
            self.all_fail(InvalidWord, "value", wrong, lambda value: made(USUAL, (), ("k",), value))
        self.all_fail(InvalidWord, "value", wrong, lambda value: Evenly(USUAL, value, None, None))

    def test_empty_words(self):
        self.fails(InvalidWord, {"value": ()}, Kept, USUAL, (), (), None)
        self.fails(InvalidWord, {"value": ()}, Evenly, USUAL, (), 1, "k")
        self.assertEqual(Rested(USUAL, (), (), ()).counts(), (0, 0))

    def test_repeated(self):
        told = {"problem": "repeated"}
        self.fails(InvalidText, told, Rested, USUAL, (), ("yo",), ())
        self.fails(InvalidText, told, Rested, USUAL, ("k",), ("yo", "yo"), ("k",))
        self.assertEqual(Rested(USUAL, (), ("yo", "k"), ()).counts(), (0, 1))
        for word in (("yo",), ("k", "ktog"), ("kfb", "k"), ("bo",), ("ktog", "yo"), ("cdd",)):
            self.fails(InvalidText, told, Kept, USUAL, (), word, (), shift=-1)

    def test_shift(self):
        wrong = only(lambda value: no_count(value) or value > 1) + [2, 3]
        self.all_fail(InvalidNumber, "value", wrong, lambda value: Kept(USUAL, (), ("k", "p"), (), shift=value))
        self.fails(InvalidNumber, {"value": 1}, Kept, USUAL, (), ("k",), (), shift=1)
        self.assertEqual(Kept(USUAL, (), ("k",) * 240, (), shift=239).shift, 239)

    def test_times(self):
        wrong = only(lambda value: not is_int(value) or not 1 <= value <= 12) + [0, 13]
        self.all_fail(InvalidNumber, "value", wrong, lambda value: Evenly(USUAL, ("k",), value, None))
        self.assertEqual([Evenly(USUAL, ("k",), times, "k").times for times in (1, 12)], [1, 12])

    def test_plain(self):
        wrong = only(no_kind_name) + ["z"]
        self.all_fail(UnknownKind, "name", wrong, lambda value: Evenly(USUAL, ("yo",), 1, value))
        for name in ("yo", "ktog", "kfb", "bo", "cdd"):
            self.fails(InvalidText, {"problem": "plain"}, Evenly, USUAL, ("yo",), 1, name)

    def test_sequence_of_errors(self):
        self.fails(InvalidWord, {"value": "b"}, Rested, USUAL, ("k",), "b", "c")
        self.fails(InvalidWord, {"value": None}, Rested, USUAL, (), ("yo",), None)
        self.fails(InvalidWord, {"value": None}, Kept, USUAL, (), ("yo",), None, shift=-1)
        self.fails(InvalidText, {"problem": "repeated"}, Kept, USUAL, (), ("yo",), (), shift=-1)
        self.fails(InvalidWord, {"value": ()}, Evenly, USUAL, (), 0, None)
        self.fails(InvalidNumber, {"value": 0}, Evenly, USUAL, ("k",), 0, None)
        self.fails(UnknownKind, {"name": None}, Evenly, USUAL, ("k",), 1, None)


class TestWorking(Case):
    def test_wrong_counts(self):
        rested, kept = Rested(USUAL, ("k",), ("k", "p"), ()), Kept(USUAL, ("ktog",), ("k",), ())
        for text in (rested, kept, Evenly(USUAL, ("k",), 2, "k")):
            wrong = only(lambda value: not is_int(value) or value < 1) + [0]
            for value in wrong:
                self.assertIs(text.fits(value), False)
                self.fails(NotFitting, {"section": 0, "loops": value}, text.word, value)
                self.fails(NotFitting, {"section": 0, "loops": value}, text.made, value)
        text = Rested(USUAL, ("k",), ("k", "p"), ())
        self.assertEqual([text.fits(loops) for loops in range(6)], [False, True, False, True, False, True])
        self.assertIs(text.fits(loops=FAR), FAR % 2 == 1)
        self.fails(NotFitting, {"section": 0, "loops": FAR + 1}, text.word, loops=FAR + 1)
        self.fails(NotFitting, {"section": 0, "loops": FAR + 1}, text.made, loops=FAR + 1)
        self.assertIs(Rested(USUAL, (), (), ()).fits(False), False)
        self.assertIs(Rested(USUAL, ("k",), (), ()).fits(True), False)
        for value in (Touchy(), Same()):
            self.assertIs(text.fits(value), False)

    def check(self, text, work):
        """Against a working loop by loop of all small counts."""
        first, step = text.counts()
        made_first, made_step = text.made_counts()
        fitting = []
        for loops in range(first + 3 * step + 4):
            needle = work(text, loops)
            self.assertIs(text.fits(loops), needle is not None, (text, loops))
            if needle is None:
                self.fails(NotFitting, {"section": 0, "loops": loops}, text.word, loops)
                self.fails(NotFitting, {"section": 0, "loops": loops}, text.made, loops)
                continue
            word = text.word(loops)
            self.assertIsInstance(word, LongWord)
            self.assertEqual(word, LongWord.of(USUAL, *needle.letters))
            self.assertEqual((word.takes, word.makes), (loops, needle.made))
            self.assertEqual(text.made(loops), needle.made)
            self.assertEqual(text.made(loops), made_first + len(fitting) * made_step)
            fitting.append(loops)
        self.assertEqual(fitting, [first + k * step for k in range(len(fitting))])
        self.assertGreaterEqual(len(fitting), 4 if step else 1)
        slope = Fraction(made_step, step) if step else Fraction(1)
        self.assertEqual(text.slope(), (slope.numerator, slope.denominator))
        for told in (text.counts(), text.made_counts(), text.slope()):
            self.assertIs(type(told), tuple)
        if step == 0:
            self.assertEqual((len(fitting), made_step), (1, 0))

    def test_rested_loop_by_loop(self):
        chance = drawn(21)
        for _ in range(150):
            self.check(drawn_rested(chance), work_rested)
        for words in (((), (), ()), (("k",), (), ()), (("yo",), (), ("yo",)), ((), ("bo",), ()), ((), ("yo", "k"), ())):
            self.check(Rested(USUAL, *words), work_rested)

    def test_kept_loop_by_loop(self):
        chance = drawn(22)
        for _ in range(150):
            self.check(drawn_kept(chance), work_kept)
        for shift in range(4):
            self.check(Kept(USUAL, (), ("k", "p", "p", "k"), (), shift=shift), work_kept)

    def test_evenly_loop_by_loop(self):
        chance = drawn(23)
        for _ in range(80):
            self.check(drawn_evenly(chance), work_evenly)
        for times in (1, 12):
            self.check(Evenly(USUAL, ("ktog",), times, "k"), work_evenly)
            self.check(Evenly(USUAL, ("yo",), times, "p"), work_evenly)

    def test_evenly_runs(self):
        for times in range(1, 13):
            for rest in list(range(40)) + [FAR, FAR - 1, 10 ** 29 + 7]:
                runs = [(i + 1) * rest // (times + 1) - i * rest // (times + 1) for i in range(times + 1)]
                parts = [(("k",), runs[0])]
                for run in runs[1:]:
                    parts += [(("bo",), 1), (("k",), run)]
                self.assertEqual(Evenly(USUAL, ("bo",), times, "k").word(rest + times), LongWord(USUAL, parts))

    def test_rested_far(self):
        chance = drawn(24)
        for _ in range(100):
            text = drawn_rested(chance)
            first, step = text.counts()
            times = chance.randrange(10 ** 29) if step else 0
            loops = first + times * step
            self.assertTrue(text.fits(loops))
            for off in range(1, step):
                self.assertFalse(text.fits(loops + off))
            word = text.word(loops)
            self.assertEqual(word, LongWord(USUAL, [(text.before, 1), (text.repeated, times), (text.after, 1)]))
            self.assertEqual((word.takes, word.makes), (loops, text.made(loops)))
            for name in NAMES:
                ends = text.before.count(name) + text.after.count(name)
                self.assertEqual(word.count(name), ends + times * text.repeated.count(name))

    def test_kept_far(self):
        chance = drawn(25)
        for _ in range(100):
            text = drawn_kept(chance)
            rest = chance.randrange(10 ** 29)
            loops = loops_for(text.before) + loops_for(text.after) + rest
            word = text.word(loops)
            self.assertEqual((word.takes, word.makes), (loops, text.made(loops)))
            self.assertEqual(word.length, len(text.before) + rest + len(text.after))
            for place in [0, 1, 2, rest - 1, rest // 2, rest // 3 + 1]:
                wanted = text.repeated[(place + text.shift) % len(text.repeated)]
                self.assertEqual(word.letter(len(text.before) + place), wanted)
            self.assertEqual(word.letters(0, len(text.before)), list(text.before))
            self.assertEqual(word.letters(len(text.before) + rest, 9), list(text.after))

    def test_edges_of_kept_and_evenly(self):
        text = Kept(USUAL, ("ktog",), ("k", "p"), ("ssk", "yo"), shift=1)
        self.assertEqual((text.counts(), text.made_counts(), text.slope()), ((4, 1), (3, 1), (1, 1)))
        self.assertEqual(text.word(4).letters(0, 9), ["ktog", "ssk", "yo"])
        self.assertEqual(text.word(loops=7).letters(0, 9), ["ktog", "p", "k", "p", "ssk", "yo"])
        text = Evenly(USUAL, ("cdd",), 3, "p")
        self.assertEqual((text.counts(), text.made_counts(), text.slope()), ((9, 1), (3, 1), (1, 1)))
        self.assertEqual(text.word(9).letters(0, 9), ["cdd"] * 3)

    def test_slopes(self):
        for repeated, slope in ((("k", "ktog"), (2, 3)), (("bo", "bo"), (0, 1)), (("ktog", "ktog"), (1, 2)),
                                (("kfb", "kfb"), (2, 1)), (("ktog", "yo"), (1, 1)), ((), (1, 1))):
            self.assertEqual(Rested(USUAL, (), repeated, ()).slope(), slope)


class TestEquality(Case):
    def test_rested(self):
        text = Rested(USUAL, ("k",), ("p",), ("yo",))
        self.equal_only_to(text, Rested(Book(*list(USUAL)[::-1]), ("k",), ("p",), ("yo",)))
        for other in (Rested(USUAL, (), ("p",), ("yo",)), Rested(USUAL, ("k",), ("k",), ("yo",)),
                      Rested(USUAL, ("k",), ("p",), ()), Rested(OTHER, ("k",), ("p",), ("yo",)),
                      Kept(USUAL, ("k",), ("p",), ("yo",))):
            self.assertFalse(text == other)
            self.assertTrue(text != other)

    def test_kept(self):
        text = Kept(USUAL, ("k",), ("p", "p"), ("yo",), shift=1)
        self.equal_only_to(text, Kept(Book(*list(USUAL)[::-1]), ("k",), ("p", "p"), ("yo",), shift=1))
        for other in (Kept(USUAL, (), ("p", "p"), ("yo",), shift=1), Kept(USUAL, ("k",), ("k", "p"), ("yo",), shift=1),
                      Kept(USUAL, ("k",), ("p", "p"), (), shift=1), Kept(OTHER, ("k",), ("p", "p"), ("yo",), shift=1),
                      Kept(USUAL, ("k",), ("p", "p"), ("yo",)), Rested(USUAL, ("k",), ("p", "p"), ("yo",))):
            self.assertFalse(text == other)
            self.assertTrue(text != other)

    def test_evenly(self):
        text = Evenly(USUAL, ("yo",), 2, "k")
        self.equal_only_to(text, Evenly(Book(*list(USUAL)[::-1]), ("yo",), 2, "k"))
        for other in (Evenly(USUAL, ("k",), 2, "k"), Evenly(USUAL, ("yo",), 3, "k"), Evenly(USUAL, ("yo",), 2, "p"),
                      Evenly(OTHER, ("yo",), 2, "k")):
            self.assertFalse(text == other)
            self.assertTrue(text != other)

    def test_repr(self):
        self.assertEqual(repr(Rested(USUAL, ("k",), ("ktog", "yo"), ())), "Rested(('k',), ('ktog', 'yo'), ())")
        self.assertEqual(repr(Kept(USUAL, (), ("k", "p"), ())), "Kept((), ('k', 'p'), (), shift=0)")
        text = Kept(USUAL, ("k",), ("k", "p"), ("p",), shift=1)
        self.assertEqual(repr(text), "Kept(('k',), ('k', 'p'), ('p',), shift=1)")
        self.assertEqual(repr(Evenly(USUAL, ("ktog",), 2, "k")), "Evenly(('ktog',), 2, 'k')")


if __name__ == "__main__":
    unittest.main()
