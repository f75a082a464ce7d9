"""Long words: [14] and the interface of longwords.py."""

import unittest

from support import Case, FAR, USUAL, drawn, drawn_word, no_count, no_kind_name, only, values
from stitchsizes.errors import (
    InvalidBooks, InvalidNumber, InvalidParts, InvalidWord, NoBack, NoMirror, UnknownKind,
)
from stitchsizes.kinds import Book, Kind
from stitchsizes.longwords import LongWord

NAMES = ["k", "p", "yo"]
SMALL = Book(Kind("a", 1, 1), Kind("b", 1, 1), Kind("c", 2, 1, mirror="c"))


def written(parts):
    """The letters, one by one."""
    return [name for word, number in parts if word for _ in range(number) for name in word]


def unlike(letters, others):
    """The first difference of two lists of letters, looked for one by one."""
    for place in range(max(len(letters), len(others))):
        if letters[place:place + 1] != others[place:place + 1]:
            return place
    return None


def drawn_parts(chance, names, parts=5, most=4, times=4):
    return [(drawn_word(chance, names, most), chance.randint(0, times)) for _ in range(chance.randint(0, parts))]


def rewritten(chance, parts):
    """The same letters in other parts: repetitions split, rolled and put together in other ways."""
    new = []
    for word, number in parts:
        many = chance.randint(0, number)
        way = chance.randint(0, 3)
        if way == 0 or not word:
            new.extend([(word, many), ((), FAR), (word, number - many), (("k",), 0)])
        elif way == 1:
            new.extend([(word * 2, number // 2), (word, number % 2)])
        elif way == 2 and number > 0:
            at = chance.randint(0, len(word))
            new.extend([(word[:at], 1), (word[at:] + word[:at], number - 1), (word[at:], 1)])
        else:
            new.extend([(word * 3, number // 3), (word * (number % 3), 1)])
    return new


class TestLongWord(Case):
    def test_properties(self):
        word = LongWord(USUAL, [(("ktog", "yo"), 3), (("kfb",), 2), (("bo",), 0)])
        self.assertEqual((word.length, word.takes, word.makes, word.yarn), (8, 8, 10, 8))
        self.assertEqual(word.book, USUAL)
        self.is_fixed(word, "book", "length", "takes", "makes", "yarn")
        empty = LongWord(USUAL, [])
        self.assertEqual((empty.length, empty.takes, empty.makes, empty.yarn), (0, 0, 0, 0))

    def test_yarn_and_loops_of_great_words(self):
        book = Book(Kind("a", 3, 2, yarn=999), Kind("b", 0, 1, yarn=0))
        word = LongWord(book, [(("a", "b"), FAR), (("b",), 2)])
        self.assertEqual((word.length, word.takes), (2 * FAR + 2, 3 * FAR))
        self.assertEqual((word.makes, word.yarn), (3 * FAR + 2, 999 * FAR))

    def test_wrong_books(self):
        for value in [value for value in values() if not isinstance(value, Book)]:
            self.fails(InvalidBooks, {}, LongWord, value, None)
            self.fails(InvalidBooks, {}, LongWord.of, value, None)

    def test_wrong_parts(self):
        for value in [value for value in values() if not isinstance(value, (list, tuple))]:
            self.fails(InvalidParts, {"position": None}, LongWord, USUAL, value)
        self.fails(InvalidParts, {"position": None}, LongWord, USUAL, [None] * 401)
        self.fails(InvalidParts, {"position": None}, LongWord, USUAL, [(("k",), 1)] * 401)
        good = (("k",), 1)
        for value in [value for value in values() if not (type(value) is tuple and value == good)]:
            self.fails(InvalidParts, {"position": 1}, LongWord, USUAL, [good, value, None])
        for part in ([("k",), 1], (["k"], 1), (("k",),), (("k",), 1, 1), (("z",), 1), (("k",) * 241, 1), ("k", 1),
                     (("k",), True), (("k",), False), (("k",), -1), (("k",), None), (("k",), "1"), (1, ("k",))):
            self.fails(InvalidParts, {"position": 0}, LongWord, USUAL, [part])
            self.fails(InvalidParts, {"position": 2}, LongWord, USUAL, (good, good, part, part))

    def test_edges_of_parts(self):
        self.assertEqual(LongWord(USUAL, [(("k",), 1)] * 400).length, 400)
        self.assertEqual(LongWord(USUAL, [(("k", "p") * 120, FAR)] * 400).length, 240 * FAR * 400)
        self.assertEqual(LongWord(USUAL, [((), FAR), (("k",), 0)]), LongWord(USUAL, ()))
        self.assertEqual(LongWord(book=USUAL, parts=((("k",), 1),)), LongWord(USUAL, [(("k",), 1)]))

    def test_parts_are_copied_and_not_changed(self):
        parts = [(("k",), 2), (("k",), 3), ((), 1)]
        word = LongWord(USUAL, parts)
        self.assertEqual(parts, [(("k",), 2), (("k",), 3), ((), 1)])
        parts.append((("p",), 1))
        self.assertEqual(word.length, 5)

    def test_letter(self):
        word = LongWord(USUAL, [(("k", "p"), 2), ((), 5), (("yo",), 0), (("yo",), 1), (("p", "k", "k"), FAR)])
        self.assertEqual("".join(word.letter(place) for place in range(9)), "kpkpyopkkp")
        self.assertEqual(word.letter(5 + 3 * FAR - 3), "p")
        self.assertEqual(word.letter(place=5 + 3 * FAR - 1), "k")
        wrong = [value for value in values() if no_count(value)] + [5 + 3 * FAR, 6 + 3 * FAR]
        self.all_fail(InvalidNumber, "value", wrong, word.letter)
        self.fails(InvalidNumber, {"value": 0}, LongWord(USUAL, []).letter, 0)

    def test_count(self):
        word = LongWord(USUAL, [(("k", "p", "k"), FAR), (("p",), 3), (("yo",), 0)])
        self.assertEqual([word.count(name) for name in ("k", "p", "yo", "bo")], [2 * FAR, FAR + 3, 0, 0])
        self.assertEqual(word.count(name="k"), 2 * FAR)
        self.all_fail(UnknownKind, "name", only(no_kind_name) + ["z"], word.count)

    def test_letters(self):
        word = LongWord(USUAL, [(("k", "p"), 2), (("yo",), 3), (("p", "k", "k"), FAR)])
        letters = ["k", "p", "k", "p", "yo", "yo", "yo"] + ["p", "k", "k"] * 200
        for first in range(20):
            for many in (0, 1, 2, 3, 5, 8, 399, 400):
                self.assertEqual(word.letters(first, many), letters[first:first + many])
        self.assertEqual(word.letters(7 + 3 * FAR - 2, 400), ["k", "k"])
        self.assertEqual(word.letters(7 + 3 * FAR, 5), [])
        self.assertEqual(word.letters(first=FAR ** 2, many=5), [])
        self.assertIs(type(word.letters(0, 3)), list)
        word.letters(0, 3).clear()
        self.assertEqual(word.letters(0, 3), ["k", "p", "k"])

    def test_letters_wrong_numbers(self):
        word = LongWord(USUAL, [(("k",), 9)])
        self.all_fail(InvalidNumber, "value", only(no_count), lambda value: word.letters(value, 401))
        wrong = only(lambda value: no_count(value) or value > 400) + [401]
        self.all_fail(InvalidNumber, "value", wrong, lambda value: word.letters(0, value))
        self.fails(InvalidNumber, {"value": -1}, word.letters, -1, -2)

    def test_repr(self):
        self.assertEqual(repr(LongWord(USUAL, [])), "LongWord(0)")
        self.assertEqual(repr(LongWord(USUAL, [(("k", "p"), 10 ** 29)])), "LongWord(2" + "0" * 29 + ")")

    def test_of(self):
        self.assertEqual(LongWord.of(USUAL).length, 0)
        word = LongWord.of(USUAL, "k", "yo", "k")
        self.assertEqual(word.letters(0, 9), ["k", "yo", "k"])
        self.assertIsInstance(word, LongWord)
        names = ["k"] * 240 + ["p"] + ["k"] * 239 + ["yo"]
        self.assertEqual(LongWord.of(USUAL, *names).letters(100, 400), names[100:])
        wrong = only(no_kind_name) + ["z"]
        self.all_fail(UnknownKind, "name", wrong, lambda value: LongWord.of(USUAL, "k", value, "y"))
        self.fails(UnknownKind, {"name": "y"}, LongWord.of, USUAL, "y", "z")


class TestTurned(Case):
    def test_turned(self):
        word = LongWord(USUAL, [(("k", "ktog"), 2), (("yo",), FAR)])
        self.assertEqual(word.turned(), LongWord(USUAL, [(("yo",), FAR), (("ptog", "p"), 2)]))
        self.assertEqual(word.mirrored(), LongWord(USUAL, [(("yo",), FAR), (("ssk", "k"), 2)]))
        self.assertEqual(word.letters(0, 4), ["k", "ktog", "k", "ktog"])

    def test_first_letter_that_has_none(self):
        word = LongWord(USUAL, [(("k",), 2), (("cdd",), 0), (("kfb", "cdd"), FAR), (("cdd",), 1)])
        self.fails(NoBack, {"name": "kfb"}, word.turned)
        word = LongWord(SMALL, [(("a",), 0), (("c", "b"), 1), (("a",), 1)])
        self.fails(NoMirror, {"name": "b"}, word.mirrored)

    def test_letters_that_there_are_not_need_none(self):
        word = LongWord(USUAL, [(("k",), 2), (("cdd", "kfb"), 0)])
        self.assertEqual(word.turned(), LongWord(USUAL, [(("p",), 2)]))
        self.assertEqual(LongWord(SMALL, [(("a",), 0), (("c",), 2)]).mirrored(), LongWord(SMALL, [(("c",), 2)]))

    def test_against_letters(self):
        chance = drawn(11)
        for _ in range(200):
            parts = drawn_parts(chance, ["k", "p", "ktog", "ssk", "yo"])
            letters = tuple(written(parts))
            word = LongWord(USUAL, parts)
            self.assertEqual(word.turned().letters(0, 400), list(USUAL.turned(letters)))
            self.assertEqual(word.mirrored().letters(0, 400), list(USUAL.mirrored(letters)))


class TestSum(Case):
    def test_both_behind_each_other(self):
        one, other = LongWord(USUAL, [(("k",), FAR)]), LongWord(USUAL, [(("k",), 2), (("p",), 1)])
        self.assertEqual(one + other, LongWord(USUAL, [(("k",), FAR + 2), (("p",), 1)]))
        self.assertEqual(other + one, LongWord(USUAL, [(("k", "k", "p"), 1), (("k",), FAR)]))
        self.assertEqual((one.length, other.length), (FAR, 3))
        self.assertEqual(one + LongWord(Book(*USUAL), []), one)

    def test_more_than_400_parts(self):
        one = LongWord(USUAL, [(("k", "p"), 3), (("yo",), 2)] * 200)
        word = one + one
        self.assertEqual((word.length, word.count("yo")), (3200, 800))
        self.assertEqual(word.turned().turned(), word)
        self.assertEqual(word.mirrored(), one.mirrored() + one.mirrored())
        self.assertEqual((word + word).first_difference(word), 3200)

    def test_wrong_values(self):
        word = LongWord(USUAL, [(("k",), 1)])
        wrong = only(lambda value: not isinstance(value, LongWord)) + [LongWord(SMALL, [])]
        self.all_fail(InvalidWord, "value", wrong, lambda value: word + value)
        self.all_fail(InvalidWord, "value", wrong, word.first_difference)


class TestDifferences(Case):
    def check(self, parts, others):
        letters, second = written(parts), written(others)
        one, other = LongWord(USUAL, parts), LongWord(USUAL, others)
        wanted = unlike(letters, second)
        self.assertEqual(one.first_difference(other), wanted)
        self.assertEqual(other.first_difference(one), wanted)
        self.assertIs(one == other, wanted is None)
        self.assertIs(one != other, wanted is not None)

    def test_small_words_letter_by_letter(self):
        chance = drawn(12)
        for _ in range(1500):
            names = NAMES[:chance.randint(1, 3)]
            self.check(drawn_parts(chance, names), drawn_parts(chance, names))

    def test_letters_letter_by_letter(self):
        chance = drawn(13)
        for _ in range(300):
            parts = drawn_parts(chance, NAMES)
            letters = written(parts)
            word = LongWord(USUAL, parts)
            self.assertEqual(word.length, len(letters))
            self.assertEqual([word.letter(place) for place in range(len(letters))], letters)
            self.assertEqual([word.count(name) for name in NAMES], [letters.count(name) for name in NAMES])
            first, many = chance.randint(0, 30), chance.randint(0, 30)
            self.assertEqual(word.letters(first, many), letters[first:first + many])
            taken, made = USUAL.taken(tuple(letters)), USUAL.made(tuple(letters))
            self.assertEqual((word.takes, word.makes, word.yarn), (taken, made, len(letters)))

    def test_the_same_letters_in_other_parts(self):
        chance = drawn(14)
        for _ in range(300):
            parts = drawn_parts(chance, NAMES)
            self.check(parts, rewritten(chance, parts))

    def test_great_words_in_other_parts(self):
        chance = drawn(15)
        for _ in range(300):
            parts = drawn_parts(chance, NAMES, times=FAR)
            others = rewritten(chance, parts)
            one, other = LongWord(USUAL, parts), LongWord(USUAL, others)
            self.assertIsNone(one.first_difference(other))
            self.assertTrue(one == other)
            behind = LongWord.of(USUAL, "bo")
            self.assertEqual(one.first_difference(other + behind), one.length)
            self.assertEqual((other + behind).first_difference(one), one.length)
            self.assertEqual(one.letters(max(0, one.length - 9), 9), other.letters(max(0, one.length - 9), 9))

    def test_great_words_that_differ_at_one_place(self):
        chance = drawn(16)
        for _ in range(300):
            ahead = drawn_parts(chance, NAMES, times=FAR)
            behind = drawn_parts(chance, NAMES, times=FAR)
            one = LongWord(USUAL, ahead + [(("bo",), 1)] + behind)
            other = LongWord(USUAL, rewritten(chance, ahead) + [(("ssk",), 1)] + rewritten(chance, behind))
            self.assertEqual(one.first_difference(other), LongWord(USUAL, ahead).length)
            self.assertFalse(one == other)

    def test_words_with_common_beginnings(self):
        # The repetitions of k p k and k p k k p agree for 7 letters, less than 3 + 5.
        one = LongWord(USUAL, [(("k", "p", "k"), FAR)])
        other = LongWord(USUAL, [(("k", "p", "k", "k", "p"), FAR)])
        self.assertEqual(one.first_difference(other), unlike(["k", "p", "k"] * 9, ["k", "p", "k", "k", "p"] * 9))
        for short in range(1, 30):
            for extra in range(1, 7):
                word = ("k",) * short + ("p",)
                longer = word * extra + ("k",)
                self.check([(word, 200)], [(longer, 20)])

    def test_long_words_of_one_part_each(self):
        word = ("k",) * 239 + ("p",)
        self.check([(word, 3)], [(word[:120], 1), (word[120:] + word[:120], 2), (word[120:], 1)])
        self.check([(word, 3)], [(("k",), 239), (("p",), 1), (("k",) * 238, 1), (("p",), 1)])

    def test_ends(self):
        self.check([], [])
        self.check([], [(("k",), 1)])
        self.check([(("k",), 2)], [(("k",), 3)])
        self.check([(("k",), 2), (("p",), 1)], [(("k",), 2)])
        word = LongWord(USUAL, [(("k",), FAR)])
        self.assertEqual(word.first_difference(other=LongWord(USUAL, [(("k",), FAR + 1)])), FAR)

    def test_equality(self):
        word = LongWord(USUAL, [(("k", "p"), 2)])
        self.equal_only_to(word, LongWord(Book(*list(USUAL)[::-1]), [(("k",), 1), (("p", "k"), 1), (("p",), 1)]))
        self.assertFalse(LongWord(SMALL, []) == LongWord(USUAL, []))
        self.assertFalse(LongWord(Book(Kind("k", 1, 1)), [(("k",), 1)]) == LongWord(USUAL, [(("k",), 1)]))


if __name__ == "__main__":
    unittest.main()
