"""The names, parameters and places of the interface, and its examples."""

import ast
import doctest
import importlib
import inspect
import os
import unittest

from support import ROOT, Case, USUAL
from stitchsizes.alike import Beside
from stitchsizes.cells import Cell
from stitchsizes.desk import Desk
from stitchsizes.families import Family
from stitchsizes.forms import Form
from stitchsizes.kinds import Book, Kind
from stitchsizes.longwords import LongWord
from stitchsizes.merging import SketchWork
from stitchsizes.patterns import Pattern, Times, Until
from stitchsizes.pieces import first_trouble
from stitchsizes.rows import RowText
from stitchsizes.schedules import Along, Schedule, Sketch
from stitchsizes.sections import Evenly, Rested
from stitchsizes.texts import pattern_text, read_pattern, written_at
from stitchsizes.trees import compare, texts_compared
from stitchsizes.working import outcome_at

# For each class its parameters, methods (None: a property) with their parameters, and operators.
SECTION = {
    "book": None, "fits": "loops", "word": "loops", "made": "loops", "counts": "", "made_counts": "", "slope": "",
    "__eq__": "other", "__repr__": "",
}
CLASSES = {
    "kinds": {
        "Kind": ("name, takes, makes, *, back=None, mirror=None, yarn=1", {
            "name": None, "takes": None, "makes": None, "back": None, "mirror": None, "yarn": None,
            "__eq__": "other", "__repr__": "",
        }),
        "Book": ("*kinds", {
            "kind": "name", "names": "", "is_word": "value", "taken": "word", "made": "word", "yarn_of": "word",
            "turned": "word", "mirrored": "word", "usual": "", "__eq__": "other", "__len__": "", "__contains__": "x",
            "__iter__": "",
        }),
    },
    "longwords": {
        "LongWord": ("book, parts", {
            "book": None, "length": None, "takes": None, "makes": None, "yarn": None, "letter": "place",
            "count": "name", "letters": "first, many", "first_difference": "other", "turned": "", "mirrored": "",
            "of": "book, *names",
            "__add__": "other", "__eq__": "other", "__repr__": "",
        }),
    },
    "sections": {
        "SectionText": ("", {name: told for name, told in SECTION.items() if not name.startswith("__")}),
        "Rested": ("book, before, repeated, after", {**SECTION, "before": None, "repeated": None, "after": None}),
        "Kept": ("book, before, repeated, after, *, shift=0",
                 {**SECTION, "before": None, "repeated": None, "after": None, "shift": None}),
        "Evenly": ("book, deed, times, plain", {**SECTION, "deed": None, "times": None, "plain": None}),
    },
    "forms": {
        "Form": ("x=0, y=0, constant=0", {
            "x": None, "y": None, "constant": None, "is_number": None, "at": "x, y=0", "put": "first, second",
            "__add__": "other", "__sub__": "other", "__mul__": "other", "__neg__": "", "__str__": "", "__repr__": "",
            "__eq__": "other",
        }),
    },
    "cells": {
        "Cell": ("*conditions", {
            "flat": "*conditions", "conditions": "", "is_empty": None, "least": "", "least_at": "x",
            "with_conditions": "*conditions", "points": "many", "__contains__": "x", "__eq__": "other", "__len__": "",
            "__repr__": "",
        }),
    },
    "families": {
        "Family": ("book, parts", {
            "book": None, "parts": None, "length": None, "count": "name", "at": "x, y=0", "put": "first, second",
            "in_order": "", "is_over": "cell", "__add__": "other", "__eq__": "other",
        }),
    },
    "trees": {
        "Tree": ("one, other, cell", {
            "nodes": None, "is_alike": None, "leaves": "", "at": "x, y=0", "least": "", "__len__": "",
            "__eq__": "other",
        }),
    },
    "rows": {
        "RowText": ("*texts", {
            "book": None, "texts": None, "fits": "counts", "word": "counts", "made": "counts",
            "worked": "counts, side", "__len__": "", "__eq__": "other", "__repr__": "",
        }),
    },
    "fabrics": {
        "Fabric": ("book, cast_on, rows=()", {
            "book": None, "cast_on": None, "loops": None, "row": "number", "all_rows": "", "loops_at": "number",
            "with_row": "word", "from_behind": "", "in_mirror": "", "first_difference": "other", "__len__": "",
            "__eq__": "other",
        }),
    },
    "patterns": {
        "Step": ("", {}),
        "Repeat": ("block, times", {"block": None, "times": None, "__eq__": "other"}),
        "Times": ("block, p, q", {"block": None, "p": None, "q": None, "__eq__": "other"}),
        "Until": ("block, section, way, loops", {
            "block": None, "section": None, "way": None, "loops": None, "__eq__": "other",
        }),
        "Cut": ("section, edge, loops", {"section": None, "edge": None, "loops": None, "__eq__": "other"}),
        "Merge": ("section", {"section": None, "__eq__": "other"}),
        "Pattern": ("book, way, cast_on, steps", {
            "book": None, "way": None, "cast_on": None, "steps": None, "sections_at": "step", "with_steps": "*steps",
            "__len__": "", "__eq__": "other",
        }),
    },
    "working": {
        "Work": ("pattern, size", {
            "pattern": None, "size": None, "outcome": None, "row_count": None, "row": "number", "worked_row": "number",
            "counts": "number", "place": "number", "each_row": "", "fabric": "",
        }),
    },
    "sizes": {
        "Sizes": ("*stretches", {
            "whole": "", "of": "*sizes", "least": "", "next_size": "size", "count": "first, last", "is_finite": None,
            "without": "", "stretches": "", "__contains__": "x", "__or__": "other", "__and__": "other",
            "__sub__": "other", "__eq__": "other", "__bool__": "",
        }),
    },
    "pieces": {
        "Piece": ("stretch, outcome", {
            "modulus": None, "residue": None, "first": None, "last": None, "start": None, "outcome": None,
            "outcome_at": "size",
        }),
    },
    "schedules": {
        "Schedule": ("section, edge, deed, first, every, *, times=None, until=None", {
            "section": None, "edge": None, "deed": None, "first": None, "every": None, "times": None, "until": None,
            "__eq__": "other",
        }),
        "Along": ("base, schedules, *, rows=None", {"base": None, "schedules": None, "rows": None, "__eq__": "other"}),
        "Sketch": ("book, way, cast_on, steps", {
            "book": None, "way": None, "cast_on": None, "steps": None, "__len__": "", "__eq__": "other",
        }),
    },
    "merging": {
        "SketchWork": ("sketch, size", {
            "sketch": None, "size": None, "outcome": None, "row_count": None, "row": "number", "counts": "number",
            "each_row": "",
        }),
    },
    "alike": {
        "Beside": ("one, other", {
            "one": None, "other": None, "alike": None, "parted": None, "neither": None, "only_one": None,
            "only_other": None, "is_alike": None, "word": "size", "parting": "size", "least": "", "alike_from": "",
            "swapped": "", "__eq__": "other",
        }),
    },
    "desk": {
        "Desk": ("book", {
            "book": None, "do": "command", "do_all": "*commands", "names": "", "pattern_of": "name", "log": "",
            "trial": "", "__contains__": "x", "__len__": "",
        }),
    },
}
FUNCTIONS = {
    "lists": {"counts_through": "texts", "made_through": "texts", "worked_through": "texts, loops",
              "common_counts": "one, other"},
    "families": {"root_of": "word", "period_of": "text", "text_family": "text, loops"},
    "trees": {"compare": "one, other, cell", "agreed": "one, other, cell", "is_tree": "one, other, cell, value",
              "texts_compared": "one, other", "first_unlike": "one, other"},
    "rows": {"cut_section": "counts, section, edge, loops", "merge_section": "counts, section"},
    "working": {"outcome_at": "pattern, size", "yarn_at": "pattern, size"},
    "pieces": {"pieces": "pattern", "sizes_through": "pattern", "sizes_failing": "pattern", "sizes_endless": "pattern",
               "first_trouble": "pattern", "weight_of": "pattern"},
    "yarn": {"least_more": "one, other", "always_more_from": "one, other"},
    "merging": {"merged": "sketch", "sketch_through": "sketch", "sketch_weight": "sketch"},
    "alike": {"resized": "pattern, start, factor", "are_alike": "one, other"},
    "texts": {"word_text": "word", "section_text": "text", "row_text": "row", "book_text": "book",
              "pattern_text": "pattern", "read_section": "book, text", "read_row": "book, text", "read_book": "text",
              "read_pattern": "book, text", "written_at": "pattern, size"},
    "desk": {"tried": "desk, *commands"},
}
GENERATORS = (("cells", "Cell", "points"), ("trees", "Tree", "leaves"), ("working", "Work", "each_row"),
              ("merging", "SketchWork", "each_row"))


def parameters(made):
    """The parameters of a function as they are written, without the object's own."""
    told = [str(told) for told in inspect.signature(made).parameters.values()]
    kinds = [told.kind for told in inspect.signature(made).parameters.values()]
    if inspect.Parameter.KEYWORD_ONLY in kinds:
        told.insert(kinds.index(inspect.Parameter.KEYWORD_ONLY), "*")
    return ", ".join(told)


def defined_in(name):
    """The functions and classes that are defined in a file of the package, by name."""
    with open(os.path.join(ROOT, "stitchsizes", f"{name}.py"), encoding="utf-8") as file:
        body = ast.parse(file.read()).body
    return {node.name: node for node in body if isinstance(node, (ast.FunctionDef, ast.ClassDef))}


class TestInterface(Case):
    def test_classes(self):
        for file, classes in CLASSES.items():
            nodes = defined_in(file)
            for name, (told, methods) in classes.items():
                self.assertIsInstance(nodes[name], ast.ClassDef)
                made = getattr(importlib.import_module(f"stitchsizes.{file}"), name)
                self.assertEqual(made.__module__, f"stitchsizes.{file}")
                self.assertEqual(parameters(made), told, name)
                for method, given in methods.items():
                    self.assertIn(method, vars(made), name)
                    if given is None:
                        self.assertIsInstance(vars(made)[method], property)
                    else:
                        ahead = "self, " if not isinstance(vars(made)[method], classmethod) else ""
                        wanted = (ahead + given).rstrip(", ")
                        self.assertEqual(parameters(getattr(made, method)), wanted, f"{name}.{method}")

    def test_functions(self):
        for file, functions in FUNCTIONS.items():
            nodes = defined_in(file)
            for name, told in functions.items():
                self.assertIsInstance(nodes[name], ast.FunctionDef)
                self.assertEqual(parameters(getattr(importlib.import_module(f"stitchsizes.{file}"), name)), told)

    def test_generators(self):
        for file, name, method in GENERATORS:
            made = getattr(importlib.import_module(f"stitchsizes.{file}"), name)
            self.assertTrue(inspect.isgeneratorfunction(vars(made)[method]), name)
        self.assertTrue(inspect.isgeneratorfunction(texts_compared))


class TestExamples(Case):
    def test_stage_1(self):
        book = Book.usual()
        one = LongWord(book, [(("k", "p"), 10 ** 20), (("k",), 1)])
        other = LongWord(book, [(("k",), 1), (("p", "k"), 10 ** 20)])
        told = [one == other, one.length == 2 * 10 ** 20 + 1, one.letter(10 ** 20 + 1)]
        self.assertEqual([*told, book.turned(("k", "ktog", "yo"))], [True, True, "p", ("yo", "ptog", "p")])
        self.assertEqual(repr(Kind("ktog", 2, 1, back="ptog", mirror="ssk")), repr(USUAL.kind("ktog")))

    def test_stage_2(self):
        book = Book.usual()
        lace = Rested(book, ("k",) * 3, ("ktog", "yo") + ("k",) * 4, ("k",) * 5)
        letters = Evenly(book, ("ktog",), 2, "k").word(9).letters(0, 9)
        told = [lace.counts(), lace.made(20), lace.fits(21), letters]
        self.assertEqual(told, [(8, 6), 20, False, ["k", "ktog", "k", "k", "ktog", "k", "k"]])

    def test_stage_3(self):
        book, x, y = Book.usual(), Form(1), Form(0, 1)
        one = Family(book, [(("k",), x), (("p",), 1), (("k",), y)])
        other = Family(book, [(("k",), y), (("p",), 1), (("k",), x)])
        tree = compare(one, other, Cell())
        told = [tree.at(3, 3), tree.at(2, 5), tree.at(5, 2), tree.least()]
        self.assertEqual(told, [None, (2, "p", "k"), (2, "k", "p"), ((0, 1), 0, "p", "k")])

    def test_stage_5(self):
        book = Book.usual()
        block = [RowText(Rested(book, ("ktog",), ("k",), ("ssk",))), RowText(Rested(book, (), ("k",), ()))]
        hat = Pattern(book, "round", [(20, 4)], [Until(block, 0, "at most", 8)])
        self.assertEqual([outcome_at(hat, 0), outcome_at(hat, 10 ** 20)],
                         [("through", 12, (8,)), ("through", 400000000000000000012, (8,))])

    def test_stage_6(self):
        book = Book.usual()
        block = [RowText(Rested(book, ("ktog",), ("k",), ("ssk",))), RowText(Rested(book, (), ("k",), ()))]
        hat = Pattern(book, "round", [(20, 4)], [Until(block, 0, "at most", 8)])
        self.assertEqual([outcome_at(hat, 0), outcome_at(hat, 10 ** 20), first_trouble(hat)],
                         [("through", 12, (8,)), ("through", 400000000000000000012, (8,)), None])
        self.assertEqual(first_trouble(Pattern(book, "round", [(20, 4)], [Until(block, 0, "just", 7)])),
                         (0, ("fails", 18, 0, 9, 0, 0, 2)))

    def test_stage_7(self):
        book = Book.usual()
        right = Schedule(0, "right", ("ktog",), 0, 4, times=(3, 0))
        left = Schedule(0, "left", ("ssk",), 2, 6, until=12)
        along = Along([RowText(Rested(book, (), ("k",), ()))], [right, left])
        sleeve = Sketch(book, "round", [(20, 2)], [along])
        self.assertEqual([SketchWork(sketch=sleeve, size=0).outcome, SketchWork(sleeve, 10 ** 20).outcome],
                         [("through", 32, (12,)), ("through", 1200000000000000000032, (12,))])

    def test_stage_8(self):
        book = Book.usual()
        block = [RowText(Rested(book, ("ktog",), ("k",), ("ssk",))), RowText(Rested(book, (), ("k",), ()))]
        hat = Pattern(book, "round", [(20, 4)], [Until(block, 0, "at most", 8)])
        same = Pattern(book, "round", [(20, 4)], [Times(block, 6, 2)])
        less = Pattern(book, "round", [(20, 4)], [Times(block, 5, 2)])
        self.assertEqual([Beside(hat, same).is_alike, Beside(hat, less).least()], [True, (0, ("lacks", 10, 2))])

    def test_stage_9(self):
        book = Book.usual()
        text = "round\ncast on 4 n + 20\nuntil 0 at most 8\n- ktog, (k) to last 2, ssk\n- (k) to last 0\n"
        hat = read_pattern(book, text)
        self.assertEqual(pattern_text(written_at(hat, 10)),
                         "round\ncast on 60\ntimes 26\n- ktog, (k) to last 2, ssk\n- (k) to last 0\n")
        desk = Desk(book)
        self.assertEqual(desk.do("put hat\n" + pattern_text(hat)), "new")
        told = [desk.do("work hat 10"), desk.do("line hat 4\n- ssk, (k) to last 2, ktog"),
                desk.do("line hat 3\nuntil 0 just 7")]
        self.assertEqual(told, ["through: 52 rows, 8 loops", "size 0: row 0, place 0: ktog, ssk",
                                "size 0: row 12: first has ended"])

    def test_readme(self):
        failed, tried = doctest.testfile(os.path.join(ROOT, "README.md"), module_relative=False)
        self.assertEqual(failed, 0)
        self.assertGreater(tried, 5)


if __name__ == "__main__":
    unittest.main()
