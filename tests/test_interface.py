"""The names, parameters and places of the interface, and its examples."""

import ast
import doctest
import importlib
import inspect
import os
import unittest

from support import ROOT, Case, USUAL
from stitchsizes.kinds import Book, Kind
from stitchsizes.longwords import LongWord
from stitchsizes.sections import Evenly, Rested

# For each class its parameters, methods (None: a property) with their parameters, and operators.
SECTION = {
    "book": None, "fits": "loops", "word": "loops", "made": "loops", "counts": "", "made_counts": "", "slope": "",
    "__eq__": "other", "__repr__": "",
}
CLASSES = {
    "kinds": {
        "Kind": ("name, takes, makes, *, back=None, mirror=None, yarn=1", {
            "name": None, "takes": None, "makes": None, "back": None, "mirror": None, "yarn": None,
            "__eq__": "other", "__repr__": "",
        }),
        "Book": ("*kinds", {
            "kind": "name", "names": "", "is_word": "value", "taken": "word", "made": "word", "yarn_of": "word",
            "turned": "word", "mirrored": "word", "usual": "", "__eq__": "other", "__len__": "", "__contains__": "x",
            "__iter__": "",
        }),
    },
    "longwords": {
        "LongWord": ("book, parts", {
            "book": None, "length": None, "takes": None, "makes": None, "yarn": None, "letter": "place",
            "count": "name", "letters": "first, many", "first_difference": "other", "turned": "", "mirrored": "",
            "of": "book, *names",
            "__add__": "other", "__eq__": "other", "__repr__": "",
        }),
    },
    "sections": {
        "SectionText": ("", {name: told for name, told in SECTION.items() if not name.startswith("__")}),
        "Rested": ("book, before, repeated, after", {**SECTION, "before": None, "repeated": None, "after": None}),
        "Kept": ("book, before, repeated, after, *, shift=0",
                 {**SECTION, "before": None, "repeated": None, "after": None, "shift": None}),
        "Evenly": ("book, deed, times, plain", {**SECTION, "deed": None, "times": None, "plain": None}),
    },
    "forms": {
        "Form": ("x=0, y=0, constant=0", {
            "x": None, "y": None, "constant": None, "is_number": None, "at": "x, y=0", "put": "first, second",
            "__add__": "other", "__sub__": "other", "__mul__": "other", "__neg__": "", "__str__": "", "__repr__": "",
            "__eq__": "other",
        }),
    },
    "cells": {
        "Cell": ("*conditions", {
            "flat": "*conditions", "conditions": "", "is_empty": None, "least": "", "least_at": "x",
            "with_conditions": "*conditions", "points": "many", "__contains__": "x", "__eq__": "other", "__len__": "",
            "__repr__": "",
        }),
    },
}
FUNCTIONS = {
    "lists": {"counts_through": "texts", "made_through": "texts", "worked_through": "texts, loops",
              "common_counts": "one, other"},
}


def parameters(made):
    """The parameters of a function as they are written, without the object's own."""
    told = [str(told) for told in inspect.signature(made).parameters.values()]
    kinds = [told.kind for told in inspect.signature(made).parameters.values()]
    if inspect.Parameter.KEYWORD_ONLY in kinds:
        told.insert(kinds.index(inspect.Parameter.KEYWORD_ONLY), "*")
    return ", ".join(told)


def defined_in(name):
    """The functions and classes that are defined in a file of the package, by name."""
    with open(os.path.join(ROOT, "stitchsizes", f"{name}.py"), encoding="utf-8") as file:
        body = ast.parse(file.read()).body
    return {node.name: node for node in body if isinstance(node, (ast.FunctionDef, ast.ClassDef))}


class TestInterface(Case):
    def test_classes(self):
        for file, classes in CLASSES.items():
            nodes = defined_in(file)
            for name, (told, methods) in classes.items():
                self.assertIsInstance(nodes[name], ast.ClassDef)
                made = getattr(importlib.import_module(f"stitchsizes.{file}"), name)
                self.assertEqual(made.__module__, f"stitchsizes.{file}")
                self.assertEqual(parameters(made), told, name)
                for method, given in methods.items():
                    self.assertIn(method, vars(made), name)
                    if given is None:
                        self.assertIsInstance(vars(made)[method], property)
                    else:
                        ahead = "self, " if not isinstance(vars(made)[method], classmethod) else ""
                        wanted = (ahead + given).rstrip(", ")
                        self.assertEqual(parameters(getattr(made, method)), wanted, f"{name}.{method}")

    def test_functions(self):
        for file, functions in FUNCTIONS.items():
            nodes = defined_in(file)
            for name, told in functions.items():
                self.assertIsInstance(nodes[name], ast.FunctionDef)
                self.assertEqual(parameters(getattr(importlib.import_module(f"stitchsizes.{file}"), name)), told)


class TestExamples(Case):
    def test_stage_1(self):
        book = Book.usual()
        one = LongWord(book, [(("k", "p"), 10 ** 20), (("k",), 1)])
        other = LongWord(book, [(("k",), 1), (("p", "k"), 10 ** 20)])
        told = [one == other, one.length == 2 * 10 ** 20 + 1, one.letter(10 ** 20 + 1)]
        self.assertEqual([*told, book.turned(("k", "ktog", "yo"))], [True, True, "p", ("yo", "ptog", "p")])
        self.assertEqual(repr(Kind("ktog", 2, 1, back="ptog", mirror="ssk")), repr(USUAL.kind("ktog")))

    def test_stage_2(self):
        book = Book.usual()
        lace = Rested(book, ("k",) * 3, ("ktog", "yo") + ("k",) * 4, ("k",) * 5)
        letters = Evenly(book, ("ktog",), 2, "k").word(9).letters(0, 9)
        told = [lace.counts(), lace.made(20), lace.fits(21), letters]
        self.assertEqual(told, [(8, 6), 20, False, ["k", "ktog", "k", "k", "ktog", "k", "k"]])

    def test_readme(self):
        failed, tried = doctest.testfile(os.path.join(ROOT, "README.md"), module_relative=False)
        self.assertEqual(failed, 0)
        self.assertGreater(tried, 5)


if __name__ == "__main__":
    unittest.main()
