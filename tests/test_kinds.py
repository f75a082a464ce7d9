"""Kinds, books and words: [2], [11], [12], [13] and the interface of kinds.py."""

import unittest

from support import (
    Case, Same, Touchy, USUAL, drawn, drawn_word, is_int, no_count, no_kind_name, no_name, no_word, only, values,
)
from stitchsizes.errors import (
    InvalidBook, InvalidKind, InvalidName, InvalidNumber, InvalidWord, NoBack, NoMirror, TooMany, UnknownKind,
)
from stitchsizes.kinds import Book, Kind

TABLE = {
    "k": (1, 1, "p", "k"), "p": (1, 1, "k", "p"), "yo": (0, 1, "yo", "yo"), "ktog": (2, 1, "ptog", "ssk"),
    "ssk": (2, 1, "ssp", "ktog"), "ptog": (2, 1, "ktog", "ssp"), "ssp": (2, 1, "ssk", "ptog"),
    "cdd": (3, 1, None, "cdd"), "kfb": (1, 2, None, "kfb"), "bo": (1, 0, "bo", "bo"),
}


def many_kinds(many):
    return [Kind("a" + chr(ord("a") + at), 1, 1) for at in range(many)]


class TestKind(Case):
    def test_properties(self):
        kind = Kind("ktog", 2, 1, back="ptog", mirror="ssk", yarn=7)
        told = (kind.name, kind.takes, kind.makes, kind.back, kind.mirror, kind.yarn)
        self.assertEqual(told, ("ktog", 2, 1, "ptog", "ssk", 7))
        self.is_fixed(kind, "name", "takes", "makes", "back", "mirror", "yarn")

    def test_defaults(self):
        kind = Kind("k", 1, 1)
        self.assertEqual((kind.back, kind.mirror, kind.yarn), (None, None, 1))

    def test_parameters_by_name_and_position(self):
        self.assertEqual(Kind(name="a", takes=2, makes=3), Kind("a", 2, 3))
        with self.assertRaises(TypeError):
            Kind("k", 1, 1, "p")

    def test_edges_of_numbers(self):
        for takes, makes, yarn in ((0, 6, 0), (6, 0, 999), (6, 6, 1), (0, 1, 0), (1, 0, 999)):
            kind = Kind("k", takes, makes, yarn=yarn)
            self.assertEqual((kind.takes, kind.makes, kind.yarn), (takes, makes, yarn))

    def test_names_of_one_to_eight_letters(self):
        for name in ("a", "z", "abcdefgh", "zzzzzzzz"):
            self.assertEqual(Kind(name, 1, 1, back=name, mirror=name).name, name)
        for name in ("", "abcdefghi", "A", "a1", "a ", " a", "a-b", "a\n", "k_", "`", "{"):
            self.fails(InvalidName, {"value": name}, Kind, name, 1, 1)

    def test_wrong_names(self):
        wrong = only(no_name)
        self.all_fail(InvalidName, "value", wrong, lambda value: Kind(value, 1, 1))
        twins = [value for value in wrong if value is not None]
        self.all_fail(InvalidName, "value", twins, lambda value: Kind("k", 1, 1, back=value))
        self.all_fail(InvalidName, "value", twins, lambda value: Kind("k", 1, 1, mirror=value))

    def test_wrong_numbers(self):
        loops = only(lambda value: no_count(value) or value > 6) + [7]
        self.all_fail(InvalidNumber, "value", loops, lambda value: Kind("k", value, 1))
        self.all_fail(InvalidNumber, "value", loops, lambda value: Kind("k", 1, value))
        yarn = only(lambda value: no_count(value) or value > 999) + [1000]
        self.all_fail(InvalidNumber, "value", yarn, lambda value: Kind("k", 1, 1, yarn=value))

    def test_takes_and_makes_nothing(self):
        self.fails(InvalidKind, {"value": "a"}, Kind, "a", 0, 0)

    def test_sequence_of_errors(self):
        bad = dict(back="B", mirror="M", yarn=-1)
        self.fails(InvalidName, {"value": "K"}, Kind, "K", 7, 8, **bad)
        self.fails(InvalidName, {"value": "B"}, Kind, "k", 7, 8, **bad)
        self.fails(InvalidName, {"value": "M"}, Kind, "k", 7, 8, mirror="M", yarn=-1)
        self.fails(InvalidNumber, {"value": 7}, Kind, "k", 7, 8, yarn=-1)
        self.fails(InvalidNumber, {"value": 8}, Kind, "k", 6, 8, yarn=-1)
        self.fails(InvalidNumber, {"value": -1}, Kind, "k", 0, 0, yarn=-1)

    def test_equality(self):
        kind = Kind("k", 1, 2, back="p", mirror="q", yarn=3)
        self.equal_only_to(kind, Kind("k", 1, 2, back="p", mirror="q", yarn=3))
        for other in (
            Kind("j", 1, 2, back="p", mirror="q", yarn=3), Kind("k", 2, 2, back="p", mirror="q", yarn=3),
            Kind("k", 1, 1, back="p", mirror="q", yarn=3), Kind("k", 1, 2, back="o", mirror="q", yarn=3),
            Kind("k", 1, 2, back="p", mirror="r", yarn=3), Kind("k", 1, 2, back="p", mirror="q", yarn=4),
            Kind("k", 1, 2, back="q", mirror="p", yarn=3), Kind("k", 1, 2, yarn=3),
        ):
            self.assertFalse(kind == other)
            self.assertTrue(kind != other)

    def test_repr(self):
        kind = Kind("ktog", 2, 1, back="ptog", mirror="ssk")
        self.assertEqual(repr(kind), "Kind('ktog', 2, 1, back='ptog', mirror='ssk')")
        self.assertEqual(repr(Kind("k", 1, 1)), "Kind('k', 1, 1)")
        self.assertEqual(repr(Kind("k", 0, 6, yarn=0)), "Kind('k', 0, 6, yarn=0)")
        self.assertEqual(repr(Kind("k", 1, 1, mirror="k", yarn=20)), "Kind('k', 1, 1, mirror='k', yarn=20)")
        self.assertEqual(repr(Kind("k", 1, 1, back="p")), "Kind('k', 1, 1, back='p')")


class TestBook(Case):
    def test_usual(self):
        self.assertEqual(USUAL.names(), sorted(TABLE))
        for name, (takes, makes, back, mirror) in TABLE.items():
            self.assertEqual(USUAL.kind(name), Kind(name, takes, makes, back=back, mirror=mirror))
        self.assertEqual(Book.usual(), USUAL)

    def test_names_are_new_and_sorted(self):
        book = Book(Kind("b", 1, 1), Kind("ab", 1, 1), Kind("a", 1, 1))
        self.assertEqual(book.names(), ["a", "ab", "b"])
        book.names().clear()
        self.assertEqual(book.names(), ["a", "ab", "b"])
        self.assertIs(type(book.names()), list)

    def test_len_in_and_iteration(self):
        book = Book(*many_kinds(24)[::-1])
        self.assertEqual(len(book), 24)
        self.assertEqual([kind.name for kind in book], sorted(kind.name for kind in many_kinds(24)))
        self.assertEqual(list(book), many_kinds(24))
        self.assertTrue("aa" in book)
        for value in values():
            self.assertIs(value in book, False)
        self.assertEqual([value for value in values() if value in USUAL], ["k", "p"])

    def test_kind_asks_for_names(self):
        self.all_fail(UnknownKind, "name", only(no_kind_name) + ["kk"], USUAL.kind)
        self.assertEqual(USUAL.kind(name="yo"), Kind("yo", 0, 1, back="yo", mirror="yo"))

    def test_wrong_kinds(self):
        wrong = only(lambda value: not isinstance(value, Kind))
        self.all_fail(InvalidKind, "value", wrong, Book)
        self.all_fail(InvalidKind, "value", wrong, lambda value: Book(Kind("a", 1, 1), value, "k"))
        self.fails(InvalidKind, {"value": None}, Book, *many_kinds(24), None)

    def test_numbers_of_kinds(self):
        self.assertEqual(len(Book(Kind("a", 1, 1))), 1)
        self.assertEqual(len(Book(*many_kinds(24))), 24)
        self.fails(TooMany, {"what": "kinds", "limit": 24}, Book, *many_kinds(25))
        self.fails(TooMany, {"what": "kinds", "limit": 24}, Book, *[Kind("a", 1, 1)] * 25)
        self.fails(InvalidBook, {"problem": "none", "name": None}, Book)

    def problem(self, problem, name, *kinds):
        self.fails(InvalidBook, {"problem": problem, "name": name}, Book, *kinds)

    def test_taken(self):
        one, two = Kind("a", 1, 1), Kind("b", 1, 1)
        self.problem("taken", "b", one, two, Kind("b", 2, 1), Kind("a", 1, 1))
        self.problem("taken", "a", Kind("a", 1, 1, back="z"), Kind("a", 1, 1))

    def test_back(self):
        self.problem("back", "a", Kind("a", 1, 1, back="z"))
        self.problem("back", "a", Kind("a", 1, 1, back="b"), Kind("b", 2, 1, back="a"))
        self.problem("back", "b", Kind("b", 1, 1, back="a"), Kind("a", 1, 2, back="b"))
        self.problem("back", "a", Kind("a", 1, 1, back="b"), Kind("b", 1, 1))
        self.problem("back", "a", Kind("a", 1, 1, back="b"), Kind("b", 1, 1, back="b"))
        self.problem("back", "c", Kind("a", 1, 1), Kind("c", 1, 1, back="a"), Kind("b", 1, 1, back="z"))
        self.assertEqual(len(Book(Kind("a", 1, 2, back="a"), Kind("b", 1, 1, back="c"), Kind("c", 1, 1, back="b"))), 3)

    def test_mirror(self):
        self.problem("mirror", "a", Kind("a", 1, 1, mirror="z"))
        self.problem("mirror", "a", Kind("a", 1, 1, mirror="b"), Kind("b", 2, 1, mirror="a"))
        self.problem("mirror", "b", Kind("b", 1, 1, mirror="a"), Kind("a", 1, 2, mirror="b"))
        self.problem("mirror", "a", Kind("a", 1, 1, mirror="b"), Kind("b", 1, 1))
        self.problem("mirror", "a", Kind("a", 1, 1, mirror="b"), Kind("b", 1, 1, mirror="b"))
        self.problem("mirror", "c", Kind("a", 1, 1), Kind("c", 1, 1, mirror="a"), Kind("b", 1, 1, mirror="z"))
        kinds = [Kind("a", 1, 2, mirror="a"), Kind("b", 1, 1, mirror="c"), Kind("c", 1, 1, mirror="b")]
        self.assertEqual(list(Book(*kinds)), kinds)

    def test_both(self):
        # The back has no mirror.
        self.problem("both", "a", Kind("a", 1, 1, back="b", mirror="a"), Kind("b", 1, 1, back="a"))
        # The mirror has no back.
        self.problem("both", "a", Kind("a", 1, 1, back="a", mirror="b"), Kind("b", 1, 1, mirror="a"))
        # Neither has one.
        self.problem("both", "a", Kind("a", 1, 1, back="b", mirror="c"), Kind("b", 1, 1, back="a"),
                     Kind("c", 1, 1, mirror="a"))
        # Both have one, but not the same.
        kinds = [Kind("a", 1, 1, back="b", mirror="c"), Kind("b", 1, 1, back="a", mirror="b"),
                 Kind("c", 1, 1, back="c", mirror="a")]
        self.problem("both", "a", *kinds)
        self.problem("both", "c", *kinds[::-1])
        four = [Kind("a", 1, 1, back="b", mirror="c"), Kind("b", 1, 1, back="a", mirror="d"),
                Kind("c", 1, 1, back="d", mirror="a"), Kind("d", 1, 1, back="c", mirror="b")]
        self.assertEqual(len(Book(*four)), 4)

    def test_sequence_of_problems(self):
        back, mirror = Kind("a", 1, 1, back="z"), Kind("b", 1, 1, mirror="z")
        both = [Kind("c", 1, 1, back="d", mirror="c"), Kind("d", 1, 1, back="c")]
        self.problem("taken", "c", *both, mirror, back, both[0])
        self.problem("back", "a", *both, mirror, back)
        self.problem("mirror", "b", *both, mirror)
        self.problem("both", "c", *both)
        self.problem("both", "c", *both[::-1])

    def test_equality(self):
        kinds = list(USUAL)
        self.equal_only_to(USUAL, Book(*kinds), Book(*kinds[::-1]), Book(*(kinds[3:] + kinds[:3])))
        self.assertFalse(USUAL == Book(*[kind for kind in kinds if kind.name != "bo"]))
        changed = [Kind("bo", 1, 0, back="bo", mirror="bo", yarn=2) if kind.name == "bo" else kind for kind in kinds]
        self.assertTrue(USUAL != Book(*changed))


class TestWords(Case):
    def test_is_word(self):
        for word in ((), ("k",), ("k",) * 240, tuple(TABLE)):
            self.assertIs(USUAL.is_word(word), True)
        wrong = [("k",) * 241, ("k", "z"), ["k"], "k", ("k", ["k"]), ("k", Touchy()), (Same(),), (("k",),), ("K",)]
        for value in wrong:
            self.assertIs(USUAL.is_word(value), False)
        for value in values():
            self.assertIs(USUAL.is_word(value), not no_word(value))
        self.assertIs(Book(Kind("a", 1, 1)).is_word(("k",)), False)

    def test_sums(self):
        book = Book(Kind("a", 0, 6, yarn=0), Kind("b", 6, 0, yarn=999), Kind("c", 3, 2, yarn=5))
        for word, taken, made, yarn in (
            ((), 0, 0, 0), (("a",), 0, 6, 0), (("b",), 6, 0, 999), (("c",), 3, 2, 5),
            (("a", "b", "c", "c"), 12, 10, 1009), (("b",) * 240, 1440, 0, 239760),
        ):
            self.assertEqual((book.taken(word), book.made(word), book.yarn_of(word)), (taken, made, yarn))

    def test_turned(self):
        self.assertEqual(USUAL.turned(()), ())
        self.assertEqual(USUAL.turned(("k", "ktog", "yo")), ("yo", "ptog", "p"))
        self.assertEqual(USUAL.turned(("bo", "ssk", "p")), ("k", "ssp", "bo"))
        self.fails(NoBack, {"name": "kfb"}, USUAL.turned, ("k", "kfb", "cdd"))
        self.fails(NoBack, {"name": "cdd"}, USUAL.turned, ("cdd", "kfb"))

    def test_mirrored(self):
        self.assertEqual(USUAL.mirrored(()), ())
        self.assertEqual(USUAL.mirrored(("k", "ktog", "cdd")), ("cdd", "ssk", "k"))
        book = Book(Kind("a", 1, 1), Kind("b", 1, 1), Kind("c", 1, 1, mirror="c"))
        self.fails(NoMirror, {"name": "b"}, book.mirrored, ("c", "b", "a"))
        self.fails(NoMirror, {"name": "a"}, book.mirrored, ("c", "a", "b"))

    def test_turning_twice_and_both_ways(self):
        chance = drawn(1)
        names = ["k", "p", "yo", "ktog", "ssk", "ptog", "ssp", "bo"]
        for _ in range(200):
            word = drawn_word(chance, names, 12)
            self.assertEqual(USUAL.turned(USUAL.turned(word)), word)
            self.assertEqual(USUAL.mirrored(USUAL.mirrored(word)), word)
            self.assertEqual(USUAL.mirrored(USUAL.turned(word)), USUAL.turned(USUAL.mirrored(word)))
            self.assertEqual(USUAL.turned(word), tuple(TABLE[name][2] for name in reversed(word)))
            self.assertEqual(USUAL.mirrored(word), tuple(TABLE[name][3] for name in reversed(word)))

    def test_wrong_words(self):
        wrong = only(no_word) + [("k",) * 241, ("z",), ("cdd", "z")]
        for call in (USUAL.taken, USUAL.made, USUAL.yarn_of, USUAL.turned, USUAL.mirrored):
            self.all_fail(InvalidWord, "value", wrong, call)

    def test_parameters_by_name(self):
        self.assertEqual(USUAL.is_word(value=("k",)), True)
        self.assertEqual((USUAL.taken(word=("ktog",)), USUAL.made(word=("kfb",))), (2, 2))
        self.assertEqual(USUAL.yarn_of(word=("k",)), 1)
        self.assertEqual((USUAL.turned(word=("k",)), USUAL.mirrored(word=("ktog",))), (("p",), ("ssk",)))

    def test_true_is_no_number(self):
        self.assertFalse(is_int(True))
        self.fails(InvalidNumber, {"value": True}, Kind, "k", True, 1)
        self.fails(InvalidNumber, {"value": False}, Kind, "k", 1, False)


if __name__ == "__main__":
    unittest.main()
