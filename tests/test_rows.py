"""Row texts over sections, cuts and merges: [41], [42] and the interface of rows.py."""

import unittest

from support import Case, FAR, OTHER_BOOK, USUAL, Same, drawn, drawn_word, no_count, no_text, only, values
from stitchsizes.errors import (
    InvalidCounts, InvalidEdge, InvalidNumber, InvalidSection, InvalidTexts, InvalidWay, NoBack, NotFitting, TooMany,
)
from stitchsizes.kinds import Book
from stitchsizes.longwords import LongWord
from stitchsizes.rows import RowText, cut_section, merge_section
from stitchsizes.sections import Evenly, Kept, Rested

NAMES = ("k", "p", "ktog", "yo", "kfb", "bo", "ssk")
PLAIN = Rested(USUAL, (), ("k",), ())
FAR_COUNT = 10 ** 25 + 1


def drawn_section(chance, names=NAMES):
    ends = [drawn_word(chance, names, 2) for _ in range(2)]
    sort = chance.randint(0, 3)
    if sort == 0:
        return Rested(USUAL, ends[0], chance.choice([(), ("k",), ("ktog", "yo"), ("k", "p")]), ends[1])
    if sort == 1:
        repeated = drawn_word(chance, ["k", "p"], 3) + ("k",)
        return Kept(USUAL, ends[0], repeated, ends[1], shift=chance.randrange(len(repeated)))
    if sort == 2:
        return Evenly(USUAL, drawn_word(chance, names, 1) + ("k",), chance.randint(1, 3), "p")
    return Rested(USUAL, (), ("k",), ())


def knitted(names, needle):
    """Works a word on the loops of a needle, one after the other: what lies there then, and what is left over."""
    made = []
    loops = list(needle)
    for name in names:
        kind = USUAL.kind(name)
        if len(loops) < kind.takes:
            raise AssertionError("no loops are left")
        del loops[:kind.takes]
        made.extend([name] * kind.makes)
    return made, loops


def no_counts(value, many=1):
    if not isinstance(value, tuple) or len(value) != many:
        return True
    return any(no_count(loops) for loops in value)


class TestRowText(Case):
    def test_properties(self):
        other = Kept(USUAL, (), ("k", "p"), ())
        row = RowText(PLAIN, other)
        self.assertEqual((row.book, row.texts, len(row)), (USUAL, (PLAIN, other), 2))
        self.assertIs(type(row.texts), tuple)
        self.is_fixed(row, "book", "texts")
        self.assertEqual([len(RowText(*[PLAIN] * many)) for many in (1, 6)], [1, 6])

    def test_wrong_texts(self):
        for many in (0, 7, 9):
            self.fails(InvalidTexts, {"position": None}, RowText, *[PLAIN] * many)
        self.fails(InvalidTexts, {"position": None}, RowText, *[None] * 7)
        for value in only(no_text):
            self.fails(InvalidTexts, {"position": 0}, RowText, value)
            self.fails(InvalidTexts, {"position": 0}, RowText, value, PLAIN, None)
            self.fails(InvalidTexts, {"position": 2}, RowText, PLAIN, PLAIN, value, None)
        foreign = Rested(OTHER_BOOK, (), ("k",), ())
        self.fails(InvalidTexts, {"position": 1}, RowText, PLAIN, foreign)
        self.fails(InvalidTexts, {"position": 2}, RowText, foreign, foreign, PLAIN)
        self.assertEqual(len(RowText(PLAIN, Rested(Book(*USUAL), (), ("k",), ()))), 2)

    def test_equality_and_repr(self):
        kept = Kept(USUAL, (), ("k", "p"), (), shift=1)
        row = RowText(PLAIN, kept)
        self.equal_only_to(row, RowText(Rested(Book(*USUAL), (), ("k",), ()), kept))
        self.assertTrue(row != RowText(kept, PLAIN))
        self.assertTrue(row != RowText(PLAIN))
        self.assertFalse(RowText(PLAIN) == RowText(Rested(OTHER_BOOK, (), ("k",), ())))
        self.assertEqual(repr(row), "RowText(Rested((), ('k',), ()), Kept((), ('k', 'p'), (), shift=1))")
        self.assertEqual(repr(RowText(PLAIN)), "RowText(Rested((), ('k',), ()))")

    def test_fits(self):
        row = RowText(PLAIN, Rested(USUAL, ("k",), ("ktog",), ()))
        for counts, fits in (((0, 1), True), ((4, 5), True), ((4, 4), False), ((4, 0), False),
                             ((FAR, 2 * FAR + 1), True), ((FAR, FAR + 1), False)):
            self.assertIs(row.fits(counts), fits)
        for value in [*values(), (1,), (1, 1, 1), [1, 1], (1, True), (False, 1), (1, -1), (None, 1), ((1,), 1)]:
            if not isinstance(value, tuple) or value != (0, 1):
                self.assertIs(row.fits(value), False)
        self.assertIs(RowText(PLAIN).fits(counts=(0,)), True)

    def test_word(self):
        row = RowText(Rested(USUAL, ("p",), ("k",), ()), Rested(USUAL, (), (), ()), Evenly(USUAL, ("yo",), 1, "k"))
        word = row.word((3, 0, 2))
        self.assertIs(type(word), LongWord)
        self.assertEqual(word, LongWord.of(USUAL, "p", "k", "k", "k", "yo", "k"))
        self.assertEqual(row.made((3, 0, 2)), (3, 0, 3))
        self.assertIs(type(row.made((3, 0, 2))), tuple)
        far = row.word(counts=(FAR_COUNT, 0, FAR_COUNT))
        self.assertEqual((far.length, far.takes, far.makes), (2 * FAR_COUNT + 1, 2 * FAR_COUNT, 2 * FAR_COUNT + 1))
        self.assertEqual(far.letter(FAR_COUNT + FAR_COUNT // 2), "yo")
        self.assertEqual(row.made(counts=(FAR_COUNT, 0, FAR_COUNT)), (FAR_COUNT, 0, FAR_COUNT + 1))
        # Sections without loops take no place in the word.
        self.assertEqual(RowText(PLAIN, PLAIN, PLAIN).word((0, 2, 0)), LongWord.of(USUAL, "k", "k"))
        self.assertEqual(RowText(*[PLAIN] * 6).word((0,) * 6), LongWord(USUAL, []))

    def test_wrong_counts(self):
        wrong = [value for value in values() if no_counts(value)] + [(1, 2), (True,), (-1,), (None,), [3]]
        row = RowText(PLAIN)
        for call in (row.word, row.made, lambda value: row.worked(value, None)):
            self.all_fail(InvalidCounts, "value", wrong, call)
        two = RowText(PLAIN, PLAIN)
        for call in (two.word, two.made, lambda value: two.worked(value, "right")):
            self.all_fail(InvalidCounts, "value", [value for value in values() if no_counts(value, 2)], call)

    def test_not_fitting(self):
        row = RowText(PLAIN, Rested(USUAL, ("k",), (), ()), Rested(USUAL, (), ("ktog",), ()))
        for call in (row.word, row.made, lambda counts: row.worked(counts, "wrong")):
            self.fails(NotFitting, {"section": 1, "loops": 2}, call, (0, 2, 1))
            self.fails(NotFitting, {"section": 2, "loops": FAR}, call, (0, 1, FAR))
            self.fails(NotFitting, {"section": 1, "loops": 0}, call, (0, 0, 0))
        self.fails(NotFitting, {"section": 0, "loops": 1}, RowText(Rested(USUAL, (), (), ())).word, (1,))

    def test_worked(self):
        row = RowText(Rested(USUAL, ("k", "ktog"), ("p",), ()), Rested(USUAL, ("yo",), ("ssk",), ()))
        self.assertEqual(row.worked((4, 2), "right"), LongWord.of(USUAL, "k", "ktog", "p", "yo", "ssk"))
        self.assertEqual(row.worked(counts=(4, 2), side="wrong"), LongWord.of(USUAL, "ssp", "yo", "k", "ptog", "p"))
        self.assertEqual(row.worked((4, 2), "wrong"), row.word((4, 2)).turned())

    def test_worked_errors(self):
        row = RowText(Rested(USUAL, ("kfb", "cdd"), ("k",), ()), Rested(USUAL, (), ("cdd",), ("kfb",)))
        for value in [value for value in values()] + ["Right", "round", "left", "", Same()]:
            self.fails(InvalidWay, {"value": value}, row.worked, (4, 1), value)
            # The side is looked at ahead of what fits, and behind the counts.
            self.fails(InvalidWay, {"value": value}, row.worked, (0, 0), value)
            self.fails(InvalidCounts, {"value": (4,)}, row.worked, (4,), value)
        self.fails(NotFitting, {"section": 0, "loops": 0}, row.worked, (0, 0), "wrong")
        self.fails(NoBack, {"name": "kfb"}, row.worked, (4, 1), "wrong")
        self.assertEqual(row.worked((4, 1), "right").length, 3)
        ahead = RowText(PLAIN, Rested(USUAL, (), ("cdd",), ("kfb",)))
        self.fails(NoBack, {"name": "cdd"}, ahead.worked, (2, 4), "wrong")
        self.fails(NoBack, {"name": "kfb"}, ahead.worked, (2, 1), "wrong")

    def test_on_a_needle(self):
        chance = drawn(121)
        worked = 0
        for _ in range(1200):
            row = RowText(*[drawn_section(chance) for _ in range(chance.choice([1, 1, 2, 3, 6]))])
            counts = tuple(chance.choice([0, 1, 2, 4, 5, 8]) for _ in range(len(row)))
            unfit = [at for at, text in enumerate(row.texts) if not text.fits(counts[at])]
            self.assertIs(row.fits(counts), not unfit)
            if unfit:
                for call in (row.word, row.made):
                    self.fails(NotFitting, {"section": unfit[0], "loops": counts[unfit[0]]}, call, counts)
                continue
            # Section by section from the right edge on.
            seen, made = [], []
            for text, loops in zip(row.texts, counts):
                letters = text.word(loops).letters(0, 200)
                new, left = knitted(letters, range(loops))
                self.assertEqual(left, [])
                seen.extend(letters)
                made.append(len(new))
            word = row.word(counts)
            self.assertEqual(word, LongWord.of(USUAL, *seen))
            self.assertEqual(row.made(counts), tuple(made))
            self.assertEqual((word.takes, word.makes), (sum(counts), sum(made)))
            # On the wrong side, over the whole needle from the left edge: it looks the same from the right side.
            if all(USUAL.kind(name).back for name in seen):
                behind, left = knitted(row.worked(counts, "wrong").letters(0, 300), range(sum(counts)))
                self.assertEqual((len(behind), left), (sum(made), []))
                self.assertEqual([USUAL.kind(name).back for name in behind[::-1]], knitted(seen, range(sum(counts)))[0])
            worked += 1
        self.assertGreater(worked, 200)


def needle(counts):
    """Loops that are laid side by side: for each section the list of its loops, from the right edge on."""
    found, first = [], 0
    for loops in counts:
        found.append(list(range(first, first + loops)))
        first += loops
    return found


class TestSections(Case):
    def test_examples(self):
        self.assertEqual(cut_section((10,), 0, "right", 3), (3, 7))
        self.assertEqual(cut_section((10,), 0, "left", 3), (7, 3))
        self.assertEqual(cut_section((4, 10, 5), 1, "right", 0), (4, 0, 10, 5))
        self.assertEqual(cut_section((4, 10, 5), 1, "left", 0), (4, 10, 0, 5))
        self.assertEqual(cut_section((4, 10, 5), 2, "right", 5), (4, 10, 5, 0))
        self.assertEqual(cut_section(counts=(4, 10, 5), section=0, edge="left", loops=4), (0, 4, 10, 5))
        self.assertEqual(cut_section((FAR,), 0, "right", FAR - 1), (FAR - 1, 1))
        self.assertEqual(cut_section((0,), 0, "right", 0), (0, 0))
        self.assertEqual(merge_section((4, 10, 5), 0), (14, 5))
        self.assertEqual(merge_section(counts=(4, 10, 5), section=1), (4, 15))
        self.assertEqual(merge_section((0, 0), 0), (0,))
        self.assertEqual(merge_section((FAR, FAR, 1), 0), (2 * FAR, 1))

    def test_on_a_needle(self):
        chance = drawn(122)
        for _ in range(500):
            counts = tuple(chance.randint(0, 5) for _ in range(chance.randint(1, 6)))
            lying = needle(counts)
            section = chance.randrange(len(counts))
            if len(counts) < 6:
                loops = chance.randint(0, counts[section])
                at = loops if (edge := chance.choice(["right", "left"])) == "right" else counts[section] - loops
                cut = lying[:section] + [lying[section][:at], lying[section][at:]] + lying[section + 1:]
                self.assertEqual(cut_section(counts, section, edge, loops), tuple(len(loops) for loops in cut))
                self.assertEqual(merge_section(cut_section(counts, section, edge, loops), section), counts)
            if section + 1 < len(counts):
                merged = lying[:section] + [lying[section] + lying[section + 1]] + lying[section + 2:]
                self.assertEqual(merge_section(counts, section), tuple(len(loops) for loops in merged))

    def test_wrong_counts(self):
        good = [(1, 2), (0, 0), (1, 2, 3)]
        wrong = [value for value in values() if not (isinstance(value, tuple) and value in good)]
        more = [(), (1,) * 7, (True,), (1, -1), [1, 2], (1, None)]
        self.all_fail(InvalidCounts, "value", [*wrong, *more], lambda value: cut_section(value, None, None, None))
        self.all_fail(InvalidCounts, "value", [*wrong, *more], lambda value: merge_section(value, None))

    def test_wrong_sections(self):
        wrong = only(no_count) + [3, FAR]
        self.all_fail(InvalidSection, "value", wrong, lambda value: cut_section((1, 2, 3), value, None, None))
        self.all_fail(InvalidSection, "value", wrong, lambda value: merge_section((1, 2, 3), value))
        self.fails(InvalidSection, {"value": 2}, merge_section, (1, 2, 3), 2)
        self.fails(InvalidSection, {"value": 0}, merge_section, (5,), 0)
        self.fails(InvalidSection, {"value": 1}, cut_section, (5,), 1, "right", 0)

    def test_wrong_edges_and_numbers(self):
        for value in values() + ["Right", "both", ""]:
            self.fails(InvalidEdge, {"value": value}, cut_section, (1, 2), 1, value, None)
        self.all_fail(InvalidNumber, "value", only(no_count), lambda value: cut_section((1, 2), 1, "left", value))

    def test_last_errors(self):
        self.fails(NotFitting, {"section": 1, "loops": 2}, cut_section, (1, 2), 1, "left", 3)
        self.fails(NotFitting, {"section": 5, "loops": 0}, cut_section, (1,) * 5 + (0,), 5, "right", FAR)
        self.fails(TooMany, {"what": "sections", "limit": 6}, cut_section, (1,) * 6, 0, "right", 0)
        self.fails(NotFitting, {"section": 0, "loops": 1}, cut_section, (1,) * 6, 0, "right", 2)
        self.assertEqual(len(cut_section((1,) * 5, 4, "left", 1)), 6)
        self.assertEqual(len(merge_section((1,) * 6, 4)), 5)


if __name__ == "__main__":
    unittest.main()
