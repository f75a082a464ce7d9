"""Lists of section texts: [22], [23] and the interface of lists.py."""

import unittest

from support import Case, FAR, USUAL, drawn, drawn_word, no_count, only, values
from stitchsizes.errors import InvalidTexts, NotFitting
from stitchsizes.kinds import Book, Kind
from stitchsizes.lists import common_counts, counts_through, made_through, worked_through
from stitchsizes.longwords import LongWord
from stitchsizes.sections import Evenly, Kept, Rested, SectionText

NAMES = ["k", "yo", "ktog", "kfb", "cdd", "bo"]
OTHER = Book(Kind("k", 1, 1, yarn=2), Kind("p", 1, 1))
PLAIN = Rested(USUAL, (), ("k",), ())
HALF = Rested(USUAL, (), ("ktog",), ())
LAST = Rested(USUAL, ("k", "k"), (), ())
ELSEWHERE = Rested(OTHER, (), ("k",), ())


def drawn_text(chance):
    way = chance.randint(0, 9)
    before, after = drawn_word(chance, NAMES, 2), drawn_word(chance, NAMES, 2)
    if way < 2:
        return Kept(USUAL, before, ("k",), after)
    if way < 4:
        return Evenly(USUAL, (chance.choice(NAMES),), chance.randint(1, 3), "k")
    repeated = drawn_word(chance, NAMES, 3)
    if way == 4 or not sum(USUAL.kind(name).takes for name in repeated):
        repeated = ()
    return Rested(USUAL, before, repeated, after)


def loops_of(word):
    kinds = [USUAL.kind(name) for name in word]
    return sum(kind.takes for kind in kinds), sum(kind.makes for kind in kinds)


def made_of(text, loops):
    """What a text makes of so many loops, worked word by word if there are few, reckoned otherwise; or None."""
    if isinstance(text, Evenly):
        took, made = loops_of(text.deed * text.times)
        return loops - took + made if loops >= took else None
    took, made = loops_of(text.before + text.after)
    rest = loops - took
    if isinstance(text, Kept):
        return made + rest if rest >= 0 else None
    one, other = loops_of(text.repeated)
    if rest < 0 or rest > 0 and one == 0:
        return None
    if rest > 10 ** 6:
        return made + rest // one * other if rest % one == 0 else None
    while rest > 0:
        rest -= one
        made += other
    return made if rest == 0 else None


def made_by(texts, loops):
    for text in texts:
        loops = made_of(text, loops)
        if loops is None:
            return None
    return loops


class TestThrough(Case):
    def check(self, texts, most=300):
        counts, made = counts_through(texts), made_through(texts)
        worked = [(loops, made_by(texts, loops)) for loops in range(most)]
        fitting = [(loops, left) for loops, left in worked if left is not None]
        if counts is None:
            self.assertIsNone(made)
            self.assertEqual(fitting, [])
            return
        self.assertEqual((type(counts), type(made)), (tuple, tuple))
        (first, step), (made_first, made_step) = counts, made
        wanted = []
        loops, left = first, made_first
        while loops < most and (step > 0 or not wanted):
            wanted.append((loops, left))
            loops, left = loops + step, left + made_step
        self.assertEqual(fitting, wanted)
        if step == 0:
            self.assertEqual(made_step, 0)
            self.assertEqual(made_by(texts, first), made_first)
            return
        far = 10 ** 29 // step
        for k in (0, 1, 2, far, far + 1):
            self.assertEqual(made_by(texts, first + k * step), made_first + k * made_step)
        for off in range(1, min(step, 20)):
            self.assertIsNone(made_by(texts, first + far * step + off))

    def test_lists_loop_by_loop(self):
        chance = drawn(31)
        for _ in range(700):
            self.check([drawn_text(chance) for _ in range(chance.randint(1, 5))])

    def test_lists_of_rested_texts(self):
        chance = drawn(32)
        found = 0
        for _ in range(500):
            texts = []
            while len(texts) < 3:
                text = drawn_text(chance)
                if isinstance(text, Rested) and text.repeated:
                    texts.append(text)
            self.check(texts, 500)
            found += counts_through(texts) is not None
        self.assertTrue(50 < found < 480)

    def test_one_text(self):
        lace = Rested(USUAL, ("k",) * 3, ("ktog", "yo", "k"), ("k",) * 5)
        self.assertEqual((counts_through([lace]), made_through((lace,))), ((8, 3), (8, 3)))
        self.assertEqual((counts_through(texts=[LAST]), made_through(texts=[LAST])), ((2, 0), (2, 0)))

    def test_steps_of_nothing(self):
        bound = Rested(USUAL, (), ("bo",), ())
        self.assertEqual((counts_through([bound, bound]), made_through([bound, bound])), ((0, 1), (0, 0)))
        self.assertIsNone(counts_through([bound, LAST]))
        self.assertIsNone(made_through([bound, LAST]))
        self.assertEqual((counts_through([HALF, LAST]), made_through([HALF, LAST])), ((4, 0), (2, 0)))
        self.assertEqual((counts_through([LAST, HALF]), made_through([LAST, HALF])), ((2, 0), (1, 0)))
        self.assertIsNone(counts_through([LAST, HALF, HALF]))
        self.assertEqual(made_through([bound, Rested(USUAL, ("yo",), (), ())]), (1, 0))
        self.assertEqual(counts_through([bound, Rested(USUAL, ("yo",), (), ())]), (0, 1))

    def test_many_texts(self):
        self.assertEqual(counts_through([HALF] * 240), (0, 2 ** 240))
        self.assertEqual(made_through([HALF] * 240), (0, 1))
        self.assertEqual(made_through([PLAIN] * 239 + [LAST]), (2, 0))
        threes = Rested(USUAL, (), ("cdd",), ())
        self.assertEqual(counts_through([threes, HALF] * 20), (0, 6 ** 20))

    def test_no_count(self):
        odd = Rested(USUAL, ("k",), ("k", "k"), ())
        self.assertIsNone(counts_through([Rested(USUAL, (), ("k", "k"), ()), odd]))
        self.assertIsNone(made_through([Rested(USUAL, (), ("k", "k"), ()), odd, PLAIN]))

    def test_worked_through(self):
        chance = drawn(33)
        for _ in range(300):
            texts = [drawn_text(chance) for _ in range(chance.randint(1, 4))]
            for loops in range(12):
                left, stopped = loops, None
                for position, text in enumerate(texts):
                    ahead, left = left, made_of(text, left)
                    if left is None:
                        stopped = (position, ahead)
                        break
                if stopped is not None:
                    told = {"section": stopped[0], "loops": stopped[1]}
                    self.fails(NotFitting, told, worked_through, texts, loops)
                    continue
                words = worked_through(texts, loops)
                self.assertEqual((type(words), len(words)), (list, len(texts)))
                left = loops
                for text, word in zip(texts, words):
                    self.assertIsInstance(word, LongWord)
                    self.assertEqual(word, text.word(left))
                    self.assertEqual(word.takes, left)
                    left = made_of(text, left)
                    self.assertEqual(word.makes, left)

    def test_worked_far(self):
        words = worked_through(texts=(HALF, PLAIN, HALF), loops=4 * 10 ** 29)
        wanted = [(("ktog",), 2 * 10 ** 29), (("k",), 2 * 10 ** 29), (("ktog",), 10 ** 29)]
        self.assertEqual(words, [LongWord(USUAL, [part]) for part in wanted])
        told = {"section": 2, "loops": 2 * 10 ** 29 + 1}
        self.fails(NotFitting, told, worked_through, (HALF, PLAIN, HALF), 4 * 10 ** 29 + 2)

    def test_wrong_counts(self):
        for value in only(no_count):
            self.fails(NotFitting, {"section": 0, "loops": value}, worked_through, [PLAIN, LAST], value)

    def test_arguments_stay(self):
        texts = [PLAIN, HALF]
        worked_through(texts, 4)
        counts_through(texts)
        self.assertEqual(texts, [PLAIN, HALF])


class TestWrongTexts(Case):
    def test_wrong_lists(self):
        calls = [counts_through, made_through, lambda texts: worked_through(texts, None),
                 lambda texts: common_counts(texts, None), lambda texts: common_counts([PLAIN], texts)]
        for call in calls:
            for value in [value for value in values() if not isinstance(value, (list, tuple))]:
                self.fails(InvalidTexts, {"position": None}, call, value)
            for texts in ([], (), [PLAIN] * 241, [None] * 241):
                self.fails(InvalidTexts, {"position": None}, call, texts)
            for value in [value for value in values() if not isinstance(value, SectionText)]:
                self.fails(InvalidTexts, {"position": 0}, call, [value])
                self.fails(InvalidTexts, {"position": 0}, call, [value, PLAIN])
                self.fails(InvalidTexts, {"position": 2}, call, (PLAIN, HALF, value, None))
            self.fails(InvalidTexts, {"position": 1}, call, [PLAIN, ELSEWHERE, None])
            self.fails(InvalidTexts, {"position": 1}, call, [ELSEWHERE, PLAIN])

    def test_equal_books_are_one(self):
        again = Rested(Book(*list(USUAL)[::-1]), (), ("ktog",), ())
        self.assertEqual(counts_through([PLAIN, again]), (0, 2))

    def test_texts_go_ahead_of_counts(self):
        self.fails(InvalidTexts, {"position": 1}, worked_through, [LAST, None], 7)


class TestCommon(Case):
    def test_drawn_lists(self):
        chance = drawn(34)
        found = 0
        for _ in range(1000):
            one = [drawn_text(chance) for _ in range(chance.randint(1, 2))]
            other = [drawn_text(chance) for _ in range(chance.randint(1, 2))]
            common = common_counts(one, other)
            self.assertEqual(common, common_counts(other, one))
            wanted = [loops for loops in range(400) if None not in (made_by(one, loops), made_by(other, loops))]
            if common is None:
                self.assertEqual(wanted, [])
                continue
            found += 1
            first, step = common
            told = range(first, 400, step) if step else [loops for loops in [first] if loops < 400]
            self.assertEqual(wanted, list(told))
        self.assertTrue(250 < found < 950)

    def test_edges(self):
        bound = Rested(USUAL, ("k",) * 3, (), ())
        evens = Rested(USUAL, (), ("k", "k"), ())
        odds = Rested(USUAL, ("k",), ("k", "k"), ())
        self.assertEqual(common_counts([bound], [odds]), (3, 0))
        self.assertEqual(common_counts([odds], [bound]), (3, 0))
        self.assertIsNone(common_counts([bound], [evens]))
        self.assertIsNone(common_counts([evens], [bound]))
        self.assertIsNone(common_counts([evens], [odds]))
        self.assertEqual(common_counts([bound], [bound]), (3, 0))
        self.assertIsNone(common_counts([bound], [LAST]))
        self.assertIsNone(common_counts([evens, odds], [PLAIN]))
        self.assertIsNone(common_counts([PLAIN], [evens, odds]))

    def test_other_books(self):
        threes = Rested(OTHER, ("p",), ("k", "k", "p"), ())
        self.assertEqual(common_counts(one=[HALF], other=[threes]), (4, 6))

    def test_great_steps(self):
        one, other = Rested(USUAL, ("k",), ("k",) * 239, ()), Rested(USUAL, ("k",) * 2, ("k",) * 240, ())
        first, step = common_counts([one], [other])
        self.assertEqual((step, first % 239, first % 240), (239 * 240, 1, 2))
        self.assertTrue(2 <= first < step)
        ones = [Rested(USUAL, (), ("ktog",) * 120, ())] * 9
        threes = [Rested(USUAL, ("k",) * 7, ("k",) * 239, ())]
        first, step = common_counts(ones, threes)
        # Each text needs a multiple of 240 loops and halves them.
        self.assertEqual(counts_through(ones), (0, 240 * 2 ** 8))
        self.assertEqual((step, first % (240 * 2 ** 8), first % 239), (240 * 2 ** 8 * 239, 0, 7))
        self.assertTrue(0 <= first < step)

    def test_sequence_of_errors(self):
        self.fails(InvalidTexts, {"position": 1}, common_counts, [PLAIN, None], None)
        self.fails(InvalidTexts, {"position": None}, common_counts, [PLAIN], [])
        self.fails(InvalidTexts, {"position": 0}, common_counts, [FAR], [PLAIN, None])


if __name__ == "__main__":
    unittest.main()
