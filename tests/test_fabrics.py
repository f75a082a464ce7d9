"""Fabrics: [43] and the interface of fabrics.py."""

import unittest

from support import Case, FAR, OTHER_BOOK, USUAL, drawn, no_book, no_count, no_list, only, values
from stitchsizes.errors import InvalidBooks, InvalidNumber, InvalidRows, NoBack, NoMirror, NoRow
from stitchsizes.fabrics import Fabric
from stitchsizes.kinds import Book, Kind
from stitchsizes.longwords import LongWord

BIG = 10 ** 25


def word(*names):
    return LongWord.of(USUAL, *names)


def plain(many, name="k"):
    return LongWord(USUAL, [((name,), many)])


def drawn_rows(chance, loops, many):
    """Rows that take just the loops that there are."""
    rows = []
    for _ in range(many):
        names, left = [], loops
        while left:
            names.append(chance.choice([name for name in ("k", "p", "ktog", "ssk", "yo", "bo")
                                        if USUAL.kind(name).takes <= left]))
            left -= USUAL.kind(names[-1]).takes
        rows.append(word(*names))
        loops = rows[-1].makes
    return rows


SMALL = [word("k", "k", "ktog"), word("p", "yo", "p", "p"), word("ssk", "k", "bo")]


class TestFabric(Case):
    def test_properties(self):
        rows = list(SMALL)
        fabric = Fabric(USUAL, 4, rows)
        rows.clear()
        self.assertEqual((fabric.book, fabric.cast_on, fabric.loops, len(fabric)), (USUAL, 4, 2, 3))
        self.is_fixed(fabric, "book", "cast_on", "loops")
        self.assertEqual(fabric.loops, 2)
        empty = Fabric(book=USUAL, cast_on=7)
        self.assertEqual((empty.loops, len(empty), empty.all_rows(), empty.loops_at(0)), (7, 0, [], 7))
        self.assertEqual(Fabric(USUAL, 0, rows=()).loops, 0)
        self.assertEqual(Fabric(USUAL, FAR, [plain(FAR)]).loops, FAR)
        self.assertEqual(Fabric(USUAL, BIG, (LongWord(USUAL, [(("ktog",), BIG // 2)]),)).loops, BIG // 2)

    def test_rows(self):
        fabric = Fabric(USUAL, 4, tuple(SMALL))
        self.assertEqual([fabric.row(number) for number in range(3)], SMALL)
        self.assertEqual(fabric.all_rows(), SMALL)
        self.assertIs(type(fabric.all_rows()), list)
        fabric.all_rows().clear()
        self.assertEqual(fabric.all_rows(), SMALL)
        self.assertEqual([fabric.loops_at(number=number) for number in range(4)], [4, 3, 4, 2])
        self.assertEqual(fabric.row(number=1), SMALL[1])
        self.all_fail(NoRow, "number", only(no_count) + [3, 4, FAR], fabric.row)
        self.all_fail(NoRow, "number", only(no_count) + [4, FAR], fabric.loops_at)
        self.fails(NoRow, {"number": 0}, Fabric(USUAL, 4).row, 0)
        self.fails(NoRow, {"number": 1}, Fabric(USUAL, 4).loops_at, 1)

    def test_wrong_books_and_numbers(self):
        for value in only(no_book):
            self.fails(InvalidBooks, {}, Fabric, value, None, None)
        self.all_fail(InvalidNumber, "value", only(no_count), lambda value: Fabric(USUAL, value, None))

    def test_wrong_rows(self):
        for value in only(no_list):
            self.fails(InvalidRows, {"position": None}, Fabric, USUAL, 4, value)
        self.assertEqual(len(Fabric(USUAL, 4, [plain(4)] * 400)), 400)
        self.fails(InvalidRows, {"position": None}, Fabric, USUAL, 4, [plain(4)] * 401)
        self.fails(InvalidRows, {"position": None}, Fabric, USUAL, 4, [None] * 401)
        for value in [value for value in values() if not isinstance(value, LongWord)]:
            self.fails(InvalidRows, {"position": 0}, Fabric, USUAL, 4, [value])
            self.fails(InvalidRows, {"position": 2}, Fabric, USUAL, 4, [*SMALL[:2], value, None])
        foreign = LongWord(OTHER_BOOK, [(("k",), 4)])
        for row in (plain(3), plain(5), plain(FAR), word(), foreign, ("k",) * 4):
            self.fails(InvalidRows, {"position": 0}, Fabric, USUAL, 4, [row])
            self.fails(InvalidRows, {"position": 1}, Fabric, USUAL, 4, [plain(4), row, None])
        # What counts is what the row ahead has made.
        self.fails(InvalidRows, {"position": 1}, Fabric, USUAL, 4, [SMALL[0], plain(4)])
        self.assertEqual(Fabric(USUAL, 4, [plain(4), LongWord(Book(*USUAL), [(("k",), 4)])]).loops, 4)

    def test_no_loops(self):
        fabric = Fabric(USUAL, 2, [word("bo", "bo"), word(), word("yo"), word("k")])
        self.assertEqual([fabric.loops_at(number) for number in range(5)], [2, 0, 0, 1, 1])

    def test_with_row(self):
        fabric = Fabric(USUAL, 4, SMALL[:1])
        more = fabric.with_row(SMALL[1])
        self.assertEqual(more, Fabric(USUAL, 4, SMALL[:2]))
        self.assertEqual(more.with_row(word=SMALL[2]).loops, 2)
        self.assertEqual(len(fabric), 1)
        wrong = [value for value in values() if not isinstance(value, LongWord) or value.takes != 3]
        for value in [*wrong, plain(4), word(), LongWord(OTHER_BOOK, [(("k",), 3)])]:
            self.fails(InvalidRows, {"position": 1}, fabric.with_row, value)
        self.fails(InvalidRows, {"position": 0}, Fabric(USUAL, 4).with_row, None)
        full = Fabric(USUAL, 4, [plain(4)] * 399).with_row(plain(4))
        self.assertEqual(len(full), 400)
        self.fails(InvalidRows, {"position": 400}, full.with_row, plain(4))

    def test_turned(self):
        fabric = Fabric(USUAL, 4, SMALL)
        behind = fabric.from_behind()
        self.assertEqual(behind.all_rows(), [word("ptog", "p", "p"), word("k", "k", "yo", "k"), word("bo", "p", "ssp")])
        self.assertEqual((behind.cast_on, behind.loops, behind.book), (4, 2, USUAL))
        mirror = fabric.in_mirror()
        self.assertEqual(mirror.all_rows(), [word("ssk", "k", "k"), word("p", "p", "yo", "p"), word("bo", "k", "ktog")])
        self.assertEqual((behind.from_behind(), mirror.in_mirror()), (fabric, fabric))
        chance = drawn(131)
        for _ in range(200):
            loops = chance.randint(0, 8)
            fabric = Fabric(USUAL, loops, drawn_rows(chance, loops, chance.randint(0, 5)))
            for turned, one in ((fabric.from_behind(), LongWord.turned), (fabric.in_mirror(), LongWord.mirrored)):
                self.assertEqual(turned.all_rows(), [one(row) for row in fabric.all_rows()])
                self.assertEqual([turned.loops_at(number) for number in range(len(fabric) + 1)],
                                 [fabric.loops_at(number) for number in range(len(fabric) + 1)])

    def test_no_backs_and_mirrors(self):
        fabric = Fabric(USUAL, 5, [plain(5), word("k", "kfb", "cdd"), word("cdd", "kfb")])
        self.fails(NoBack, {"name": "kfb"}, fabric.from_behind)
        self.assertEqual(fabric.in_mirror().row(1), word("cdd", "kfb", "k"))
        book = Book(Kind("a", 1, 1, back="a"), Kind("b", 1, 1, mirror="b"), Kind("c", 1, 1))
        rows = [LongWord.of(book, *names) for names in (("a", "a"), ("a", "b"), ("c", "a"))]
        self.fails(NoBack, {"name": "b"}, Fabric(book, 2, rows[1:]).from_behind)
        self.fails(NoBack, {"name": "c"}, Fabric(book, 2, rows[::-1]).from_behind)
        self.fails(NoMirror, {"name": "a"}, Fabric(book, 2, rows).in_mirror)
        self.fails(NoMirror, {"name": "c"}, Fabric(book, 2, rows[::-1]).in_mirror)
        self.assertEqual(Fabric(book, 2, rows[:1]).from_behind(), Fabric(book, 2, rows[:1]))

    def test_first_difference(self):
        fabric = Fabric(USUAL, 4, SMALL)
        self.assertIsNone(fabric.first_difference(Fabric(USUAL, 4, SMALL)))
        self.assertIsNone(fabric.first_difference(other=fabric))
        self.assertEqual(fabric.first_difference(Fabric(USUAL, 5, [plain(5)])), ("cast on",))
        self.assertEqual(fabric.first_difference(Fabric(USUAL, 4, SMALL[:2])), ("rows", 2))
        self.assertEqual(Fabric(USUAL, 4).first_difference(fabric), ("rows", 0))
        other = Fabric(USUAL, 4, [SMALL[0], word("p", "yo", "k", "p")])
        self.assertEqual(fabric.first_difference(other), ("row", 1, 2))
        self.assertEqual(other.first_difference(fabric), ("row", 1, 2))
        # A row that ends first.
        ends = [Fabric(USUAL, 4, [word("k", "k", "k", "k", *more)]) for more in ((), ("yo",))]
        self.assertEqual(ends[0].first_difference(ends[1]), ("row", 0, 4))
        far = [LongWord(USUAL, [(("k",), BIG), ((name,), 1)]) for name in ("k", "p")]
        self.assertEqual(Fabric(USUAL, BIG + 1, far).first_difference(Fabric(USUAL, BIG + 1, far[:1] * 2)),
                         ("row", 1, BIG))
        wrong = [value for value in values() if not isinstance(value, Fabric)]
        for value in [*wrong, Fabric(OTHER_BOOK, 4)]:
            self.fails(InvalidRows, {"position": None}, fabric.first_difference, value)
        self.assertIsNone(Fabric(Book(*USUAL), 4, SMALL).first_difference(fabric))

    def test_equality(self):
        self.equal_only_to(Fabric(USUAL, 4, SMALL), Fabric(Book(*list(USUAL)[::-1]), 4, tuple(SMALL)),
                           Fabric(USUAL, 4, [LongWord(USUAL, [(("k",), 2), (("ktog",), 1)]), *SMALL[1:]]))
        self.assertTrue(Fabric(USUAL, 4) != Fabric(USUAL, 5))
        self.assertTrue(Fabric(USUAL, 4) != Fabric(OTHER_BOOK, 4))
        self.assertTrue(Fabric(USUAL, 4, SMALL) != Fabric(USUAL, 4, SMALL[:2]))
        self.assertFalse(Fabric(USUAL, 1, [plain(1)]) == Fabric(USUAL, 1, [plain(1, "p")]))


if __name__ == "__main__":
    unittest.main()
