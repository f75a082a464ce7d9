"""Families: [33], [34], [36] and the interface of families.py."""

import unittest

from support import Case, FAR, OTHER_BOOK, USUAL, drawn, drawn_word, no_book, no_count, no_kind_name, no_list, no_text
from support import only, values
from stitchsizes.cells import Cell
from stitchsizes.errors import (
    BelowZero, InvalidBooks, InvalidCell, InvalidFamily, InvalidForm, InvalidParts, InvalidPoint, InvalidTexts,
    InvalidWord, NotFitting, UnknownKind,
)
from stitchsizes.families import Family, period_of, root_of, text_family
from stitchsizes.forms import Form
from stitchsizes.kinds import Book
from stitchsizes.longwords import LongWord
from stitchsizes.sections import Evenly, Kept, Rested

X, Y = Form(1), Form(0, 1)
BIG = 10 ** 26 - 3


def number(constant):
    return Form(0, 0, constant)


def family(*parts):
    return Family(USUAL, [(tuple(word.split()), form) for word, form in parts])


def drawn_form(chance, least=0):
    if chance.random() < 0.4:
        return chance.randint(0, 3)
    return Form(chance.randint(least, 2), chance.choice([1, 2, least]), chance.randint(least, 3))


def drawn_parts(chance, many=5, least=0):
    words = [drawn_word(chance, ["k", "p"], 3) + ("k",) for _ in range(chance.randint(0, many))]
    words = [word[::-1] * chance.choice([1, 1, 1, 2, 3]) for word in words]
    parts = [(word, drawn_form(chance, least)) for word in words]
    return [part for part in parts if isinstance(part[1], int) or not part[1].is_number or part[1].constant >= 0]


def written(parts, x, y):
    """The letters of a family at a point, one by one."""
    found = []
    for word, form in parts:
        times = form if isinstance(form, int) else form.at(x, y)
        found.extend(list(word) * times)
    return found


def letters_of(items, x, y):
    """The letters of some items at a point, one by one."""
    found = []
    for item in items:
        found.extend([item] if isinstance(item, str) else list(item[0]) * item[1].at(x, y))
    return found


def root_by_trial(word):
    return [(word[:many], len(word) // many) for many in range(1, len(word) + 1)
            if word[:many] * (len(word) // many) == word][0]


def order_by_words(parts):
    """The items, as [34] tells it: one letter after the other. Parts may be items, too."""
    items = []
    for part in parts:
        if isinstance(part, str):
            items.append(part)
            continue
        word, form = part[0], Form(0, 0, part[1]) if isinstance(part[1], int) else part[1]
        if form == number(0):
            continue
        if form == number(1):
            items.extend(word)
            continue
        root, times = root_by_trial(word)
        form, behind = form * times, []
        while items and isinstance(items[-1], str) and items[-1] == root[-1]:
            behind.insert(0, items.pop())
            root = root[-1:] + root[:-1]
        if items and not isinstance(items[-1], str) and items[-1][0] == root:
            form = items.pop()[1] + form
        if form == number(1):
            items.extend(root)
        elif form != number(0):
            items.append((root, form))
        items.extend(behind)
    return items


class TestFamily(Case):
    def test_properties(self):
        parts = [(("k", "p"), X), (("yo",), 2), (("k",), Form(0, 0, 0))]
        told = Family(USUAL, parts)
        self.assertIs(type(told.parts), tuple)
        self.assertEqual(told.parts, ((("k", "p"), X), (("yo",), number(2)), (("k",), number(0))))
        self.assertEqual(told.book, USUAL)
        parts.append(None)
        parts[0] = None
        self.assertEqual(len(told.parts), 3)
        self.is_fixed(told, "book", "parts", "length")
        self.assertEqual(Family(book=USUAL, parts=told.parts), told)
        self.assertEqual(Family(USUAL, ()).parts, ())

    def test_length_and_count(self):
        told = family(("k p k", X + 2), ("p", Y * 3), ("k yo", 4))
        self.assertEqual(told.length, X * 3 + Y * 3 + 14)
        self.assertEqual(told.count("k"), X * 2 + 8)
        self.assertEqual((told.count(name="p"), told.count("yo"), told.count("bo")), (X + Y * 3 + 2, number(4), Form()))
        self.assertEqual((family().length, family().count("k")), (Form(), Form()))
        self.all_fail(UnknownKind, "name", only(no_kind_name), told.count)
        self.fails(UnknownKind, {"name": "z"}, told.count, "z")

    def test_at(self):
        told = family(("k p", X), ("p", Y * 2), ("k", 1))
        word = told.at(2, 1)
        self.assertIs(type(word), LongWord)
        self.assertEqual(word.letters(0, 9), ["k", "p", "k", "p", "p", "p", "k"])
        self.assertEqual(told.at(1), LongWord.of(USUAL, "k", "p", "k"))
        self.assertEqual(told.at(x=0, y=0), LongWord.of(USUAL, "k"))
        self.assertEqual(told.at(BIG, BIG).length, BIG * 4 + 1)
        self.assertEqual(told.at(BIG, BIG).letter(2 * BIG - 1), "p")
        chance = drawn(101)
        for _ in range(200):
            parts = drawn_parts(chance)
            x, y = chance.randint(0, 4), chance.randint(0, 4)
            self.assertEqual(Family(USUAL, parts).at(x, y), LongWord.of(USUAL, *written(parts, x, y)))
            self.assertEqual(Family(USUAL, parts).length.at(x, y), len(written(parts, x, y)))
            self.assertEqual(Family(USUAL, parts).count("p").at(x, y), written(parts, x, y).count("p"))

    def test_at_no_point(self):
        told = family(("k", X - 5))
        wrong = only(no_count)
        self.all_fail(InvalidPoint, "value", wrong, told.at)
        self.all_fail(InvalidPoint, "value", wrong, lambda value: told.at(0, value))
        self.fails(InvalidPoint, {"value": -2}, told.at, -2, None)
        self.fails(InvalidPoint, {"value": True}, told.at, 9, True)

    def test_below_zero(self):
        told = family(("k", 3), ("p", X - 2), ("k", X - Y))
        self.fails(BelowZero, {"position": 1}, told.at, 1, 5)
        self.fails(BelowZero, {"position": 2}, told.at, 2, 3)
        self.assertEqual(told.at(2, 2), LongWord.of(USUAL, "k", "k", "k"))
        self.fails(InvalidPoint, {"value": -1}, told.at, 1, -1)

    def test_put(self):
        told = family(("k", X * 2 + 1), ("p", Y - X), ("k", 3))
        self.assertEqual(told.put(X + 4, Y * 3), family(("k", X * 2 + 9), ("p", Y * 3 - X - 4), ("k", 3)))
        self.assertEqual(told.put(first=Y, second=X), family(("k", Y * 2 + 1), ("p", X - Y), ("k", 3)))
        self.assertEqual(told.put(number(2), number(5)).parts[1], (("p",), number(3)))
        self.assertEqual(told.put(number(2), number(2)).parts[1], (("p",), number(0)))
        self.fails(InvalidParts, {"position": 1}, told.put, number(2), number(1))
        self.fails(InvalidParts, {"position": 0}, told.put, number(-1), number(-5))
        wrong = [value for value in values() if not isinstance(value, Form)]
        for empty in (told, family()):
            self.all_fail(InvalidForm, "value", wrong, lambda value: empty.put(value, None))
            self.all_fail(InvalidForm, "value", wrong, lambda value: empty.put(number(-9), value))

    def test_add(self):
        one, other = family(("k", X)), family(("k", X), ("p", 2))
        both = one + other
        self.assertIs(type(both), Family)
        self.assertEqual(both, family(("k", X), ("k", X), ("p", 2)))
        self.assertEqual((one + family(), family() + one), (one, one))
        self.assertEqual(len(one.parts), 1)
        wrong = [value for value in values() if not isinstance(value, Family)]
        self.all_fail(InvalidFamily, "value", [*wrong, Family(OTHER_BOOK, [])], lambda value: one + value)
        self.assertEqual(len((family(*[("k", X)] * 399) + one).parts), 400)
        self.fails(InvalidParts, {"position": None}, lambda: family(*[("k", X)] * 399) + other)
        self.assertEqual(one + Family(Book(*USUAL), [(("p",), 1)]), family(("k", X), ("p", 1)))

    def test_equality(self):
        self.equal_only_to(family(("k", X), ("p", 2)), family(("k", Form(1)), ("p", number(2))),
                           Family(Book(*list(USUAL)[::-1]), [(("k",), X), (("p",), 2)]))
        self.assertTrue(family(("k", X)) != family(("k", Y)))
        self.assertTrue(family(("k", 1), ("p", 1)) != family(("k p", 1)))
        self.assertFalse(family(("k", X)) == family(("p", X)))
        self.assertFalse(Family(OTHER_BOOK, [(("k",), 1)]) == family(("k", 1)))

    def test_wrong_books(self):
        for value in only(no_book):
            self.fails(InvalidBooks, {}, Family, value, None)

    def test_wrong_parts(self):
        for value in only(no_list):
            self.fails(InvalidParts, {"position": None}, Family, USUAL, value)
        good = (("k",), 1)
        self.assertEqual(len(Family(USUAL, [good] * 400).parts), 400)
        self.fails(InvalidParts, {"position": None}, Family, USUAL, [good] * 401)
        self.fails(InvalidParts, {"position": None}, Family, USUAL, (None,) * 401)
        wrong = [value for value in values() if value is not good]
        wrong = [value for value in wrong if not (isinstance(value, tuple) and value[:1] == (("k",),) and len(value) == 2)]
        for value in wrong:
            self.fails(InvalidParts, {"position": 0}, Family, USUAL, [value])
            self.fails(InvalidParts, {"position": 2}, Family, USUAL, (good, good, value, None))
        for part in [((), 1), (["k"], 1), ("k", 1), (("z",), 1), (("k",) * 241, 1), (("k",), 1, 1), (("k",),),
                     [("k",), 1]]:
            self.fails(InvalidParts, {"position": 1}, Family, USUAL, [good, part])
        for form in [-1, number(-1), -FAR, None, True, False, "1", (1,), Cell()]:
            self.fails(InvalidParts, {"position": 1}, Family, USUAL, [good, (("k",), form), (("k",), -1)])
        for form in [0, number(0), X - 5, -X, -Y - 1, FAR, Form(-1, 0, -3)]:
            self.assertEqual(len(Family(USUAL, [(("k",), form)]).parts), 1)


class TestOrder(Case):
    def check(self, told, *items):
        found = told.in_order()
        self.assertIs(type(found), list)
        self.assertEqual(found, list(items))

    def test_numbers(self):
        self.check(family())
        self.check(family(("k", 0), ("p", number(0))))
        self.check(family(("k p", 1), ("yo", number(1))), "k", "p", "yo")
        self.check(family(("k p k p", 2)), (("k", "p"), number(4)))
        self.check(family(("k", 2)), (("k",), number(2)))
        self.check(family(("k k", 1)), "k", "k")
        self.check(family(("k k k", X)), (("k",), X * 3))

    def test_letters_move_behind(self):
        self.check(family(("p k", 1), ("p k", X)), (("p", "k"), X), "p", "k")
        self.check(family(("k", 1), ("p k", X)), (("k", "p"), X), "k")
        self.check(family(("k k k", 1), ("k", X)), (("k",), X), "k", "k", "k")
        self.check(family(("p", 1), ("k", 1), ("yo p k", X)), (("p", "k", "yo"), X), "p", "k")
        self.check(family(("k", 1), ("p", 1), ("yo p", X)), "k", (("p", "yo"), X), "p")
        self.check(family(("k", 1), ("k p", X)), "k", (("k", "p"), X))

    def test_powers_become_one(self):
        self.check(family(("k p", X), ("k p", Y)), (("k", "p"), X + Y))
        self.check(family(("k p", X), ("k", 1), ("p k", Y)), (("k", "p"), X + Y), "k")
        self.check(family(("k p", X), ("p k", Y)), (("k", "p"), X), (("p", "k"), Y))
        self.check(family(("k", X), ("k k", Y)), (("k",), X + Y * 2))
        self.check(family(("p k", X - Y), ("p k", Y - X)))
        self.check(family(("k", 1), ("p", X - Y), ("p", Y - X), ("k", X)), (("k",), X), "k")
        self.check(family(("k p", X - Y), ("k p", Y - X + 1)), "k", "p")
        self.check(family(("yo", 1), ("k p", X), ("k", 1), ("p k", -X + 1)), "yo", "k", "p", "k")
        self.check(family(("k", X), ("k", -X - 3)), (("k",), number(-3)))
        # What a sum has become is ahead of the next power.
        self.check(family(("p k", X), ("p k", -X + 1), ("p k", Y)), (("p", "k"), Y), "p", "k")
        self.check(family(("k", Y), ("p", X), ("p", -X), ("k", Y)), (("k",), Y * 2))

    def test_drawn(self):
        chance = drawn(102)
        moved = 0
        for _ in range(1500):
            parts = drawn_parts(chance, chance.choice([3, 8]), chance.choice([0, 0, -2]))
            told = Family(USUAL, parts).in_order()
            self.assertEqual(told, order_by_words(parts))
            moved += told != [item for part in parts for item in ([part] if part[1] != 1 else part[0])]
            self.assertEqual(order_by_words(told), told)
            for ahead, item in zip(told, told[1:]):
                if not isinstance(item, str):
                    self.assertNotEqual(ahead if isinstance(ahead, str) else ahead[0],
                                        item[0][-1] if isinstance(ahead, str) else item[0])
        self.assertGreater(moved, 500)

    def test_words_do_not_change(self):
        chance = drawn(103)
        for _ in range(300):
            parts = drawn_parts(chance)
            for x, y in ((0, 0), (1, 0), (0, 2), (2, 1), (3, 3)):
                told = Family(USUAL, parts).in_order()
                self.assertEqual(letters_of(told, x, y), written(parts, x, y))

    def test_long_families(self):
        told = family(*[("k k", 1)] * 399, ("k", X)).in_order()
        self.assertEqual(told, [(("k",), X), *["k"] * 798])
        self.assertEqual(family(*[("k p", X)] * 400).in_order(), [(("k", "p"), X * 400)])

    def test_new_lists(self):
        told = family(("k", 1), ("p", X))
        told.in_order().clear()
        self.assertEqual(told.in_order(), ["k", (("p",), X)])


class TestOver(Case):
    def test_is_over(self):
        self.assertIs(family(("k", X - 2)).is_over(Cell(X - 2)), True)
        self.assertIs(family(("k", X - 2)).is_over(cell=Cell(X - 1)), False)
        self.assertIs(family(("k", X - 2), ("p", Y - X)).is_over(Cell(X - 2)), False)
        self.assertIs(family(("k", X - 2), ("p", Y - X)).is_over(Cell(X - 2, Y - X)), True)
        self.assertIs(family(("k", X - 2)).is_over(Cell(-X - 1)), True)
        self.assertIs(family(("k", number(0)), ("p", X)).is_over(Cell()), True)
        self.assertIs(family().is_over(Cell()), True)
        # Only the counts of a cell tell: 2x - 1 is at least 0 from 1 on.
        self.assertIs(family(("k", X * 2 - 1)).is_over(Cell(X * 3 - 1)), True)
        self.assertIs(family(("k", -X + BIG)).is_over(Cell(-X + BIG)), True)
        self.assertIs(family(("k", -X + BIG - 1)).is_over(Cell(-X + BIG)), False)

    def test_drawn(self):
        chance = drawn(104)
        seen = [0, 0]
        for _ in range(300):
            parts = [(("k",), Form(chance.randint(-1, 2), chance.randint(-1, 2), chance.randint(-2, 6)))
                     for _ in range(chance.randint(0, 3))]
            parts = [part for part in parts if not part[1].is_number]
            cell = Cell(-X + 5, -Y + 5, Form(chance.randint(-2, 2), chance.randint(-2, 2), chance.randint(-4, 6)))
            wanted = all(form.at(x, y) >= 0 for x, y in cell.points(6) for _, form in parts)
            self.assertIs(Family(USUAL, parts).is_over(cell), wanted)
            seen[wanted] += 1
        self.assertGreater(min(seen), 50)

    def test_no_cell(self):
        for value in [value for value in values() if not isinstance(value, Cell)]:
            self.fails(InvalidCell, {"position": None}, family(("k", X)).is_over, value)
            self.fails(InvalidCell, {"position": None}, family().is_over, value)


class TestRoots(Case):
    def test_root_of(self):
        self.assertEqual(root_of(("k",)), (("k",), 1))
        self.assertEqual(root_of(("k", "p") * 3), (("k", "p"), 3))
        self.assertEqual(root_of(("k", "p", "k")), (("k", "p", "k"), 1))
        self.assertEqual(root_of(word=("k",) * 240), (("k",), 240))
        self.assertEqual(root_of(("k", "k", "p") * 80), (("k", "k", "p"), 80))
        self.assertEqual(root_of(("any", "name", "any", "name")), (("any", "name"), 2))
        chance = drawn(105)
        for _ in range(500):
            word = (drawn_word(chance, ["k", "p"], 5) + ("k",)) * chance.randint(1, 4)
            self.assertEqual(root_of(word), root_by_trial(word))

    def test_no_words(self):
        good = [("k",), ("k", "p")]
        wrong = [value for value in values() if not (isinstance(value, tuple) and value in good)]
        more = [(), ["k"], ("k", ""), ("K",), ("k", "k1"), ("abcdefghi",), ("k", None), ("k", ["k"])]
        self.all_fail(InvalidWord, "value", [*wrong, *more], root_of)

    def test_period_of(self):
        self.assertEqual(period_of(Rested(USUAL, ("k",), ("ktog", "yo"), ("cdd",))), 2)
        self.assertEqual(period_of(Rested(USUAL, ("k",), ("cdd", "ktog"), ())), 5)
        self.assertEqual(period_of(Rested(USUAL, ("k",), (), ())), 0)
        self.assertEqual(period_of(Kept(USUAL, (), ("k", "p", "k"), (), shift=2)), 3)
        self.assertEqual(period_of(text=Evenly(USUAL, ("yo", "k"), 12, "k")), 13)
        for value in only(no_text):
            self.fails(InvalidTexts, {"position": 0}, period_of, value)


def drawn_text(chance, names=("k", "p", "ktog", "yo", "kfb")):
    ends = [drawn_word(chance, names, 2) for _ in range(2)]
    sort = chance.randint(0, 2)
    if sort == 0:
        repeated = chance.choice([(), ("k",), ("k", "p"), ("ktog", "yo"), ("k", "k"), ("ktog", "yo", "k"), ("kfb",)])
        return Rested(USUAL, ends[0], repeated, ends[1])
    if sort == 1:
        repeated = drawn_word(chance, ["k", "p"], 3) + ("k",)
        return Kept(USUAL, ends[0], repeated, ends[1], shift=chance.randrange(len(repeated)))
    return Evenly(USUAL, drawn_word(chance, names, 1) + ("k",), chance.randint(1, 5), "p")


class TestTextFamily(Case):
    def check(self, text, loops, points):
        """The family is that of the words, and a form is below 0 just where the text does not fit."""
        told = text_family(text, loops)
        self.assertEqual(told.book, text.book)
        for x, y in points:
            below = any(form.at(x, y) < 0 for _, form in told.parts)
            self.assertEqual(below, not text.fits(loops.at(x, y)), (text, loops, x, y))
            if not below:
                self.assertEqual(told.at(x, y), text.word(loops.at(x, y)))

    def test_examples(self):
        lace = Rested(USUAL, ("k",) * 3, ("ktog", "yo") + ("k",) * 4, ("k",) * 5)
        points = [(x, y) for x in range(6) for y in range(6)]
        self.check(lace, X * 6 + 20, points)
        self.check(lace, X * 12 - Y * 6 - 4, points)
        self.check(Kept(USUAL, ("k",), ("k", "p", "p"), ("ssk",), shift=1), X * 3 - Y * 6 + 1, points)
        self.check(Evenly(USUAL, ("ktog",), 3, "k"), X * 4 - Y * 8 + 7, points)
        self.check(Rested(USUAL, ("k",), (), ("ktog",)), number(3), points)
        self.check(Kept(USUAL, (), ("k",), ()), number(0), points)
        self.check(Rested(USUAL, (), (), ()), Form(), points)

    def test_drawn(self):
        chance = drawn(106)
        for _ in range(600):
            text = drawn_text(chance)
            period = period_of(text)
            first, step = text.counts()
            constant = first + step * chance.randint(-6, 12)
            a, b = (chance.randint(-2, 2) * period for _ in range(2))
            if a == b == 0 and constant < first:
                constant = first
            self.check(text, Form(a, b, constant), [(x, y) for x in range(4) for y in range(4)])

    def test_far(self):
        chance = drawn(107)
        for _ in range(200):
            text = drawn_text(chance)
            period = period_of(text)
            first, step = text.counts()
            x, y = chance.randint(0, BIG), chance.randint(0, BIG)
            a = 3 * period
            loops = Form(a, -period, first + step * chance.randint(0, BIG) - a * x)
            near = [(x + dx, dy) for dx in range(-2, 3) for dy in range(3)]
            self.check(text, loops, [point for point in near if point[0] >= 0])
            self.check(text, Form(2 * period, period, first + step * BIG), [(x, y), (x, 0), (0, y)])

    def test_texts_first(self):
        for value in only(no_text):
            self.fails(InvalidTexts, {"position": 0}, text_family, value, None)

    def test_wrong_forms(self):
        lace = Rested(USUAL, (), ("k", "k", "k"), ())
        wrong = [value for value in values() if not isinstance(value, Form)]
        self.all_fail(InvalidForm, "value", wrong, lambda value: text_family(lace, value))
        plain = Rested(USUAL, ("k",), (), ())
        for text, forms in (
            (lace, [X, X * 2, Y, Y * -4, X * 3 + Y, X * 4 + Y * 3]), (plain, [X, Y, X - Y, X * BIG]),
            (Kept(USUAL, (), ("k", "p"), ()), [X, Y, X * 2 + Y]),
            (Evenly(USUAL, ("k",), 3, "k"), [X, X * 3, Y * 2 + 8]),
        ):
            for form in forms:
                # The factors are looked at first, also where the text fits nothing.
                self.fails(InvalidForm, {"value": form}, text_family, text, form)
                more = form + 1
                self.fails(InvalidForm, {"value": more}, text_family, text, more)

    def test_not_fitting(self):
        lace = Rested(USUAL, ("k",), ("k", "k", "k"), ())
        for constant in (0, 2, 3, -1, BIG * 3):
            self.fails(NotFitting, {"section": 0, "loops": constant}, text_family, lace, X * 3 + Y * 6 + constant)
        self.assertEqual(len(text_family(lace, -X * 3 - 8).parts), 2)
        self.fails(NotFitting, {"section": 0, "loops": -2}, text_family, lace, number(-2))
        self.fails(NotFitting, {"section": 0, "loops": 3}, text_family, lace, number(3))
        self.assertEqual(text_family(lace, number(4)).at(0), lace.word(4))
        for text, least in ((Rested(USUAL, ("ktog",), (), ()), 2), (Kept(USUAL, ("k",), ("k",), ("k",)), 2),
                            (Evenly(USUAL, ("k", "k"), 1, "k"), 2)):
            self.fails(NotFitting, {"section": 0, "loops": 1}, text_family, text, number(1))
            self.assertEqual(text_family(text, number(least)).at(0), text.word(least))
        # KEPT and EVENLY fit some of the integers of any other form, at points that are no counts, too.
        self.assertEqual(len(text_family(Kept(USUAL, (), ("k",), ()), -X - 5).parts), 1)
        self.assertEqual(len(text_family(text=Evenly(USUAL, ("k",), 1, "k"), loops=-X * 2 - 9).parts), 3)


if __name__ == "__main__":
    unittest.main()
