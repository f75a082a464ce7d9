"""Texts of words, sections, rows, books and patterns, written and read: [91] to [94], and the interface of texts.py."""

import unittest

from knitter import Knitter, drawn_pattern
from support import Case, FAR, OTHER_BOOK, USUAL, drawn, no_count, no_pattern, only, values
from stitchsizes.errors import InvalidLine, InvalidNumber, InvalidPattern, NotThrough
from stitchsizes.kinds import Book, Kind
from stitchsizes.patterns import Cut, Merge, Pattern, Repeat, Times, Until
from stitchsizes.rows import RowText
from stitchsizes.sections import Evenly, Kept, Rested
from stitchsizes.texts import (
    book_text, pattern_text, read_book, read_pattern, read_row, read_section, row_text, section_text, word_text,
    written_at,
)
from stitchsizes.working import outcome_at

BIG = 10 ** 25
# Kinds with the names of the words that stand in texts.
ODD = Book(*[Kind(name, 1, 1) for name in ("keep", "from", "to", "last", "evenly", "in", "n", "kind", "cast", "on", "just")],
           Kind("a", 2, 1), Kind("b", 0, 1))
PLAIN = Rested(USUAL, (), ("k",), ())
ROW = RowText(PLAIN)
HAT = "round\ncast on 4 n + 20\nuntil 0 at most 8\n- ktog, (k) to last 2, ssk\n- (k) to last 0\nrepeat 1\n- (bo) to last 0\n"


def words(text):
    return tuple(text.split())


def rested(before, repeated, after=""):
    return Rested(USUAL, words(before), words(repeated), words(after))


def lines_of(told):
    return told.split("\n")[:-1]


def joined(lines):
    return "".join(f"{line}\n" for line in lines)


def drawn_section(chance, book, plain, others):
    """A section text of any sort."""
    def word(most, names=plain + others):
        return tuple(chance.choice(names) for _ in range(chance.randint(0, most)))
    sort = chance.randint(0, 2)
    if sort == 0:
        return Rested(book, word(5), word(4, plain) or (), word(5))
    if sort == 1:
        repeated = word(4, plain) + (chance.choice(plain),)
        return Kept(book, word(3), repeated, word(3), shift=chance.randrange(len(repeated)))
    return Evenly(book, word(3) + (chance.choice(plain),), chance.randint(1, 12), chance.choice(plain))


class TestWritten(Case):
    def test_words(self):
        for word, told in (
            ("", ""), ("k", "k"), ("k k k yo", "k3, yo"), ("k p k", "k, p, k"), ("yo yo", "yo2"), ("p p k k k p", "p2, k3, p"),
        ):
            self.assertEqual(word_text(words(word)), told)
        self.assertEqual(word_text(word=("ktog",) * 240), "ktog240")
        self.assertEqual(word_text(("k",) * 10), "k10")

    def test_sections(self):
        for text, told in (
            (rested("k k k", "ktog yo k k k k", "k k k k k"), "k3, (ktog, yo, k4) to last 5, k5"),
            (PLAIN, "(k) to last 0"), (rested("", ""), "() to last 0"), (rested("k k", "", "ssk p"), "k2, () to last 3, ssk, p"),
            (rested("", "k", "yo"), "(k) to last 0, yo"), (rested("", "k", "cdd cdd"), "(k) to last 6, cdd2"),
            (Kept(USUAL, words("k k k"), words("k p"), ("ssk",), shift=1), "k3, keep k, p from 1 to last 2, ssk"),
            (Kept(USUAL, (), ("k", "k"), ()), "keep k2 from 0 to last 0"),
            (Evenly(USUAL, ("ktog",), 5, "k"), "evenly 5 (ktog) in k"),
            (Evenly(USUAL, words("yo yo k"), 12, "p"), "evenly 12 (yo2, k) in p"),
            (Kept(ODD, ("keep",), ("keep", "from"), ("from", "to")), "keep, keep keep, from from 0 to last 2, from, to"),
            (Kept(ODD, (), ("from",), ()), "keep from from 0 to last 0"),
            (Rested(ODD, ("evenly",), ("to", "last"), ("in",)), "evenly, (to, last) to last 1, in"),
            (Evenly(ODD, ("in", "evenly"), 1, "in"), "evenly 1 (in, evenly) in in"),
        ):
            self.assertEqual(section_text(text), told)
            self.assertEqual(section_text(text=text), told)
            self.assertEqual(read_section(text.book, told), text)
            self.assertEqual(read_row(text.book, told), RowText(text))

    def test_rows(self):
        row = RowText(PLAIN, rested("k", "p"), Evenly(USUAL, ("yo",), 1, "k"))
        told = "(k) to last 0 | k, (p) to last 0 | evenly 1 (yo) in k"
        self.assertEqual((row_text(row=row), read_row(book=USUAL, text=told)), (told, row))
        self.assertEqual(read_row(USUAL, row_text(RowText(*[PLAIN] * 6))), RowText(*[PLAIN] * 6))

    def test_books(self):
        self.assertEqual(book_text(book=Book(Kind("p", 1, 1, back="k", yarn=0), Kind("k", 1, 1, back="p"),
                                             Kind("a", 0, 6, mirror="a", yarn=999))),
                         "kind a 0 6 - a 999\nkind k 1 1 p - 1\nkind p 1 1 k - 0\n")
        self.assertEqual(lines_of(book_text(USUAL))[:3], ["kind bo 1 0 bo bo 1", "kind cdd 3 1 - cdd 1", "kind k 1 1 p k 1"])
        for book in (USUAL, OTHER_BOOK, ODD):
            self.assertEqual(read_book(text=book_text(book)), book)

    def test_patterns(self):
        block = [RowText(rested("ktog", "k", "ssk")), ROW]
        hat = Pattern(USUAL, "round", [(20, 4)], [Until(block, 0, "at most", 8), Repeat([RowText(rested("", "bo"))], 1)])
        self.assertEqual(pattern_text(pattern=hat), HAT)
        self.assertEqual(read_pattern(book=USUAL, text=HAT), hat)
        two = RowText(PLAIN, PLAIN)
        steps = [Cut(0, "right", 3), Repeat([two], 60), Times([two], -3, -1), Times([two], 0, 0), Times([two], 5, 1),
                 Times([two], 0, -7), Times([two], -FAR, FAR), Until([two], 1, "just", 0), Until([two], 0, "at least", 9),
                 Merge(0), Cut(0, "left", 0)]
        told = Pattern(USUAL, "wrong", [(0, 1)], steps)
        wanted = ["wrong", "cast on n", "cut 0 right 3", "repeat 60", "times -n - 3", "times 0", "times n + 5", "times -7 n",
                  f"times {FAR} n - {FAR}", "until 1 just 0", "until 0 at least 9", "merge 0", "cut 0 left 0"]
        self.assertEqual([line for line in lines_of(pattern_text(told)) if line[0] != "-"], wanted)
        self.assertEqual(pattern_text(told).count("\n- (k) to last 0 | (k) to last 0\n"), 8)
        self.assertEqual(read_pattern(USUAL, pattern_text(told)), told)
        forms = Pattern(USUAL, "right", [(0, 0), (7, 0), (0, 1), (0, 12), (3, 1), (20, 4)], [])
        self.assertEqual(pattern_text(forms), "right\ncast on 0 | 7 | n | 12 n | n + 3 | 4 n + 20\n")
        self.assertEqual(read_pattern(USUAL, pattern_text(forms)), forms)

    def test_wrong_patterns(self):
        self.all_fail(InvalidPattern, "value", only(no_pattern), pattern_text)


class TestRead(Case):
    def test_round_trips(self):
        """All sorts of texts, written and read back."""
        chance = drawn(201)
        for _ in range(1500):
            book, plain, others = chance.choice([
                (USUAL, ("k", "p"), ("yo", "ktog", "cdd", "bo")),
                (ODD, ("keep", "from", "to", "last", "evenly", "in", "n", "on"), ("a", "b"))])
            texts = [drawn_section(chance, book, plain, others) for _ in range(chance.randint(1, 6))]
            told = [section_text(text) for text in texts]
            self.assertEqual([read_section(book, text) for text in told], texts)
            self.assertEqual(read_row(book, " | ".join(told)), RowText(*texts))
        for _ in range(400):
            told = drawn_pattern(chance, 5, 4, 30)
            self.assertEqual(read_pattern(USUAL, pattern_text(told)), told)
        great = Pattern(USUAL, "round", [(1, 1)], [Repeat([ROW] * 240, 1)] * 3 + [Repeat([ROW], 1)] * 197)
        self.assertEqual(read_pattern(USUAL, pattern_text(great)), great)

    def test_nothing_else_is_read(self):
        """Of texts with one sign changed those are read that are written just so, and no others."""
        chance = drawn(202)
        signs = "kpyontg0123, ()|-+\n"
        read = 0
        for _ in range(3000):
            text = section_text(drawn_section(chance, USUAL, ("k", "p"), ("yo", "ktog")))
            at = chance.randrange(len(text) + 1)
            told = text[:at] + chance.choice([chance.choice(signs), ""]) + text[at + chance.randint(0, 1):]
            try:
                found = read_section(USUAL, told)
            except InvalidLine as error:
                self.assertEqual(error.line, 1)
                continue
            self.assertEqual(section_text(found), told)
            read += told != text
        self.assertGreater(read, 15)

    def test_wrong_sections(self):
        for value in [value for value in values() if not isinstance(value, str)]:
            for call in (read_section, read_row):
                self.fails(InvalidLine, {"line": 1}, call, USUAL, value)
        for text in (
            "", "k", "(k)", "(k) to last", "(k) to last 1", "(k) to last 00", "(k) to last 0 ", " (k) to last 0",
            "(k) to last 0\n", "(k)  to last 0", "(k) to last 0,", "(k) to last 0, ", "k (p) to last 0", "k,(p) to last 0",
            ", (k) to last 0", "k1, (k) to last 0", "k0, (k) to last 0", "k, k, (p) to last 0", "k03, (p) to last 0",
            "(k, k) to last 0", "(x) to last 0", "(K) to last 0", "(yo) to last 0", "(yo, k0) to last 0", "k241, (k) to last 0",
            "k200, p41, (k) to last 0", f"k{10 ** 30}, (k) to last 0", "() to last 1, ktog", "((k)) to last 0", "(k to last 0",
            "k) to last 0", "keep k from 1 to last 0", "keep k, p from 2 to last 0", "keep k from 00 to last 0",
            "keep ktog from 0 to last 0", "keep  from 0 to last 0", "keep from 0 to last 0", "keep k from -1 to last 0",
            "keep k from 0 to last 1", "keep k from 0", "keep k, k from 0 to last 0", "k keep k from 0 to last 0",
            "keep k from 0 to last 0, ", "evenly 0 (ktog) in k", "evenly 13 (ktog) in k", "evenly 1 () in k",
            "evenly 1 (ktog) in ktog", "evenly 1 (ktog) in x", "evenly 01 (ktog) in k", "evenly  1 (ktog) in k",
            "evenly 1 (ktog) in k ", "evenly 1 (ktog) in k, k", "evenly 1 (ktog) in ", "evenly (ktog) in k", "evenly 1 (ktog)",
            "Evenly 1 (ktog) in k", "(k) to last 0 | (k) to last 0",
        ):
            self.fails(InvalidLine, {"line": 1}, read_section, USUAL, text)
        for text in ("", " | ", "(k) to last 0 |", "(k) to last 0|(k) to last 0", "(k) to last 0  |  (k) to last 0",
                     "- (k) to last 0", "(k) to last 0 | k", " | ".join(["(k) to last 0"] * 7), "(k) to last 0\n"):
            self.fails(InvalidLine, {"line": 1}, read_row, USUAL, text)
        self.fails(InvalidLine, {"line": 1}, read_section, OTHER_BOOK, "(ktog, yo) to last 0")

    def wrong(self, line, *lines, end=""):
        self.fails(InvalidLine, {"line": line}, read_pattern, USUAL, joined(lines) + end)

    def test_missing_lines(self):
        for value in [value for value in values() if not isinstance(value, str)]:
            self.fails(InvalidLine, {"line": None}, read_pattern, USUAL, value)
            self.fails(InvalidLine, {"line": None}, read_book, value)
        self.wrong(1)
        self.wrong(2, "round")
        self.wrong(4, "round", "cast on 5", "repeat 2")
        self.wrong(4, "round", "cast on 5", "times 2")
        self.wrong(6, "round", "cast on 5", "cut 0 left 1", "merge 0", "until 0 just 4")
        # What stands where a row is missing is the wrong line.
        for line in ("repeat 1", "cut 0 left 1", "round", "cast on 5", "", "x"):
            self.wrong(4, "round", "cast on 5", "repeat 2", line)

    def test_lines_that_cannot_stand_there(self):
        row = "- (k) to last 0"
        for line in ("", "x", "Round", " round", "round ", "left", "cast on 5", "repeat 1", row):
            self.wrong(1, line, "cast on 5")
        for line in ("", "round", "cast on", "cast on ", "cast on -1", "cast on 05", "cast on x", "cast on 5 ", "cast on 5 n - 1",
                     "cast on -n + 5", "cast on 0 n + 5", "cast on 1 n", "cast on 5n", "cast on n + 0", "cast on n+1",
                     "cast on 5 + n", "cast on 5 |", "cast on 5|6", "cast on 5 | | 6", "cast  on 5", "Cast on 5", "repeat 1", row,
                     "cast on " + " | ".join(["1"] * 7), "cast on n n", "cast on n + n"):
            self.wrong(2, "round", line, "x")
        for line in ("", "x", "round", "cast on 5", row, "- ", "-", "repeat", "repeat ", "repeat 61", "repeat -1", "repeat 01",
                     "repeat n", "repeat 1 ", "repeat  1", "times", "times ", "times +1", "times -0", "times 1 n", "times -1 n",
                     "times 0 n", "times n - 0", "times n + -1", "times 2 n +1", "times 007", "times x", "times n 2",
                     "until 0 just", "until just 5", "until 0 about 5", "until 0 at 5", "until 0 at  most 5", "until 0 just -1",
                     "until 0 just 05", "until 1 just 5", "until -1 just 5", "until 00 just 5", "until 0 just 5 ", "until 0 left 5",
                     "cut 0 top 1", "cut 0 left", "cut 0 left -1", "cut 1 left 1", "cut 0 left 01", "cut 0 just 1", "cut 0 left n",
                     "cut 0 left 1 ", "cut  0 left 1", "cut 0 at most 1", "merge", "merge 0", "merge x", "merge 0 0", "Repeat 1"):
            self.wrong(3, "round", "cast on 5", line, "x")
            self.wrong(5, "round", "cast on 5", "repeat 1", row, line if line != row else "- x")
        self.wrong(4, "round", "cast on 5", "cut 0 left 1", row)
        self.wrong(5, "round", "cast on 5", "cut 0 left 1", "merge 0", row)

    def test_numbers_of_rows_and_steps(self):
        row = "- (k) to last 0"
        read_pattern(USUAL, joined(["round", "cast on 5", "repeat 1", *[row] * 240]))
        self.wrong(244, "round", "cast on 5", "repeat 1", *[row] * 241)
        self.wrong(244, "round", "cast on 5", "times 1", *[row] * 241)
        read_pattern(USUAL, joined(["round", "cast on 5", *["repeat 1", row] * 200]))
        self.wrong(403, "round", "cast on 5", *["repeat 1", row] * 200, "repeat 1", "x")
        self.wrong(403, "round", "cast on 5", *["repeat 1", row] * 200, "cut 0 left 1")
        self.wrong(203, "round", "cast on 5", *["cut 0 left 1", "merge 0"] * 100, "cut 0 left 1")

    def test_sections(self):
        six = ["round", "cast on " + " | ".join(["5"] * 6)]
        self.wrong(3, *six, "cut 0 left 1")
        self.wrong(3, *six, "merge 5")
        self.wrong(8, *six, *["merge 0"] * 6)
        read_pattern(USUAL, joined([*six, *["merge 0"] * 5]))
        read_pattern(USUAL, joined([*six, "merge 4", "cut 4 left 2"]))
        self.wrong(5, "round", "cast on 5", "cut 0 left 1", "repeat 1", "- (k) to last 0")
        self.wrong(4, "round", "cast on 5", "repeat 1", "- (k) to last 0 | (k) to last 0")
        self.wrong(5, "round", "cast on 5 | 5", "repeat 1", "- (k) to last 0 | (k) to last 0", "- (k) to last 0")
        self.wrong(3, "round", "cast on 5", "until 1 just 5", "- (k) to last 0")

    def test_rows(self):
        even = "- evenly 1 (yo) in k"
        read_pattern(USUAL, joined(["round", "cast on 5", "repeat 1", even]))
        for step in ("times 1", "until 0 just 5"):
            self.wrong(4, "round", "cast on 5", step, even)
            self.wrong(5, "round", "cast on 5", step, "- (k) to last 0", even, "x")
        for row in ("- (cdd) to last 0", "- kfb, (k) to last 0", "- (k) to last 3, cdd", "- evenly 1 (kfb) in k"):
            read_pattern(USUAL, joined(["round", "cast on 5", "repeat 1", row]))
            for way in ("right", "wrong"):
                self.wrong(4, way, "cast on 5", "repeat 1", row)
                self.wrong(5, way, "cast on 5", "repeat 1", "- (k) to last 0", row, "x")
        for row in ("-(k) to last 0", "-  (k) to last 0", "- (k) to last 1", "- (x) to last 0", "- ", "-", " - (k) to last 0"):
            self.wrong(4, "round", "cast on 5", "repeat 1", row)

    def test_unsteady_blocks(self):
        """The line behind such a block is wrong, whatever it is."""
        double, half = "- (kfb) to last 0", "- (ktog) to last 0"
        for step in ("times 1", "until 0 just 5"):
            read_pattern(USUAL, joined(["round", "cast on 5", step, double, half]))
            for line in ("repeat 1", "cut 0 left 1", "round", "x", ""):
                self.wrong(5, "round", "cast on 5", step, double, line)
            self.wrong(5, "round", "cast on 5", step, double)
            self.wrong(6, "round", "cast on 5", step, half, half, "repeat 1", half)
            # A wrong row goes ahead of what is behind its block.
            self.wrong(5, "round", "cast on 5", step, double, "- x")
        read_pattern(USUAL, joined(["round", "cast on 5", "repeat 1", double]))
        both = "- (kfb) to last 0 | (ktog) to last 0"
        self.wrong(5, "round", "cast on 5 | 5", "times 2", both)
        read_pattern(USUAL, joined(["round", "cast on 5 | 5", "times 2", both, "- (ktog) to last 0 | (kfb) to last 0"]))

    def test_ends_of_lines(self):
        lines = lines_of(HAT)
        for many in range(1, len(lines) + 1):
            text = joined(lines[:many])
            self.fails(InvalidLine, {"line": many}, read_pattern, USUAL, text[:-1])
        self.fails(InvalidLine, {"line": len(lines) + 1}, read_pattern, USUAL, HAT + "\n")
        self.fails(InvalidLine, {"line": len(lines) + 1}, read_pattern, USUAL, HAT + " ")
        self.fails(InvalidLine, {"line": 1}, read_pattern, USUAL, "\n" + HAT)

    def test_one_line_spoilt(self):
        """In texts of drawn patterns the line that is spoilt is the wrong one."""
        chance = drawn(203)
        for _ in range(600):
            lines = lines_of(pattern_text(drawn_pattern(chance, 5, 4, 30)))
            at = chance.randrange(len(lines))
            line = lines[at]
            spoilt = chance.choice(["", "x", line + " ", " " + line, line + "x", line.upper(),
                                    line.replace(" ", "  ", 1) if " " in line else "?", line[:-1] + "?"])
            self.wrong(at + 1, *lines[:at], spoilt, *lines[at + 1:])
            self.wrong(at + 1, *lines[:at], "x", *lines[at:])
            more = lines[at + 1:]
            cut = joined(lines[:at] + [line])[:-1]
            self.fails(InvalidLine, {"line": at + 1}, read_pattern, USUAL, cut)
            if line.startswith("- ") and "|" not in line:
                self.wrong(at + 1, *lines[:at], f"{line} | (k) to last 0", *more)

    def test_wrong_books(self):
        def wrong(line, *lines, end=""):
            self.fails(InvalidLine, {"line": line}, read_book, joined(lines) + end)
        good = "kind k 1 1 - - 1"
        wrong(1)
        for line in ("", "kind", "kind k", "Kind k 1 1 - - 1", "kind k 1 1 - -", "kind k 1 1 - - 1 ", "kind  k 1 1 - - 1",
                     "kind k 1 1 - - 1 1", "kind K 1 1 - - 1", "kind abcdefghi 1 1 - - 1", "kind - 1 1 - - 1", "kind k1 1 1 - - 1",
                     "kind k 7 1 - - 1", "kind k 1 7 - - 1", "kind k 0 0 - - 1", "kind k 01 1 - - 1", "kind k -1 1 - - 1",
                     "kind k 1 1 P - 1", "kind k 1 1 - 1 1", "kind k 1 1 - - 1000", "kind k 1 1 - - 01", "kind k 1 1 - - -",
                     "kind k 1 1 None - 1", "kind k 1 1  - 1", " kind k 1 1 - - 1", "x"):
            wrong(1, line, good)
            wrong(2, "kind a 1 1 - - 1", line)
        wrong(2, good, good)
        wrong(2, good, "kind a 1 1 - - 1")
        wrong(2, "kind k 1 1 - - 1", "kind aa 1 1 - - 1", "x")
        names = [chr(ord("a") + at) for at in range(25)]
        read_book(joined([f"kind {name} 6 0 - - 999" for name in names[:24]]))
        wrong(25, *[f"kind {name} 1 1 - - 1" for name in names])
        # Kinds that make no book.
        wrong(2, "kind k 1 1 p - 1")
        wrong(3, "kind k 1 1 p - 1", "kind p 1 1 - - 1")
        wrong(3, "kind k 1 1 p - 1", "kind p 2 1 k - 1")
        wrong(3, "kind k 1 1 k p 1", "kind p 1 1 - k 1")
        wrong(2, "kind k 1 1 p - 1", end="kind p 1 1 k - 1")
        wrong(1, end="kind p 1 1 k - 1")
        wrong(2, good, "")
        self.assertEqual(read_book("kind k 1 1 p - 1\nkind p 1 1 k - 1\n"),
                         Book(Kind("p", 1, 1, back="k"), Kind("k", 1, 1, back="p")))


class TestWrittenAt(Case):
    def test_told(self):
        hat = read_pattern(USUAL, "round\ncast on 4 n + 20\nuntil 0 at most 8\n- ktog, (k) to last 2, ssk\n- (k) to last 0\n")
        self.assertEqual(pattern_text(written_at(hat, 10)),
                         "round\ncast on 60\ntimes 26\n- ktog, (k) to last 2, ssk\n- (k) to last 0\n")
        self.assertEqual(written_at(pattern=hat, size=BIG).steps[0].p, 6 + 2 * BIG)
        two = RowText(PLAIN, PLAIN)
        steps = [Cut(0, "left", 3), Times([two], -5, 1), Repeat([two], 4), Until([two], 1, "just", 3), Times([two], 5, -1),
                 Merge(0), Times([ROW], 3, 2)]
        told = Pattern(USUAL, "wrong", [(4, 1)], steps)
        self.assertEqual(written_at(told, 7), Pattern(USUAL, "wrong", [(11, 0)], [
            Cut(0, "left", 3), Times([two], 2, 0), Repeat([two], 4), Times([two], 0, 0), Times([two], 0, 0), Merge(0),
            Times([ROW], 17, 0)]))
        self.assertEqual(written_at(Pattern(USUAL, "right", [(4, 1), (0, 2)], []), FAR).cast_on, ((FAR + 4, 0), (2 * FAR, 0)))

    def test_drawn(self):
        chance = drawn(204)
        through = 0
        for _ in range(500):
            told, size = drawn_pattern(chance), chance.choice([chance.randint(0, 9), chance.randint(0, BIG)])
            outcome = outcome_at(told, size)
            if outcome[0] != "through":
                self.fails(NotThrough, {"outcome": outcome}, written_at, told, size)
                continue
            through += 1
            made = written_at(told, size)
            self.assertEqual((made.way, len(made)), (told.way, len(told)))
            self.assertTrue(all(q == 0 for _, q in made.cast_on))
            for step, old in zip(made.steps, told.steps):
                if isinstance(old, (Times, Until)):
                    self.assertEqual((type(step), step.q, step.block, step.p >= 0), (Times, 0, old.block, True))
                else:
                    self.assertEqual(step, old)
            self.assertEqual(outcome_at(made, chance.randint(0, 9)), outcome)
            self.assertEqual(read_pattern(USUAL, pattern_text(made)), made)
            if size < 10:
                self.assertEqual(Knitter(made, 5).rows, Knitter(told, size).rows)
        self.assertGreater(through, 100)

    def test_errors(self):
        self.all_fail(InvalidPattern, "value", only(no_pattern), lambda value: written_at(value, None))
        fails = Pattern(USUAL, "round", [(4, 1)], [Cut(0, "left", 5)])
        self.all_fail(InvalidNumber, "value", only(no_count), lambda value: written_at(fails, value))
        self.fails(NotThrough, {"outcome": ("fails", 0, 0, 0, 0, 0, 4)}, written_at, fails, 0)
        self.assertEqual(written_at(fails, 1).cast_on, ((5, 0),))
        endless = Pattern(USUAL, "round", [(4, 1)], [Until([ROW], 0, "just", 1)])
        self.fails(NotThrough, {"outcome": ("endless", 0)}, written_at, endless, 0)


if __name__ == "__main__":
    unittest.main()
