"""The error classes: names, bases, parameters and attributes."""

import unittest

from support import BASES, Case, Touchy, values
from stitchsizes import errors

CLASSES = {
    "StitchError": {
        "InvalidName": ("value",), "InvalidNumber": ("value",), "InvalidKind": ("value",),
        "InvalidBook": ("problem", "name"), "InvalidWord": ("value",), "InvalidParts": ("position",),
        "InvalidText": ("problem",), "InvalidTexts": ("position",), "InvalidCounts": ("value",),
        "InvalidSection": ("value",), "InvalidEdge": ("value",), "InvalidRows": ("position",), "InvalidWay": ("value",),
        "InvalidCastOn": ("position",), "InvalidSteps": ("position",), "InvalidBlock": ("position",),
        "InvalidStretches": ("position",), "InvalidSchedules": ("position",), "InvalidSketch": ("value",),
        "InvalidPattern": ("value",), "InvalidBooks": (), "InvalidForm": ("value",), "InvalidPoint": ("value",),
        "InvalidCell": ("position",), "InvalidFamily": ("value",), "InvalidLine": ("line",),
        "InvalidCommand": ("value",),
    },
    "MissingError": {
        "UnknownKind": ("name",), "NoBack": ("name",), "NoMirror": ("name",), "NoRow": ("number",),
        "UnknownPattern": ("name",),
    },
    "StateError": {
        "NotFitting": ("section", "loops"), "NotThrough": ("outcome",), "BelowZero": ("position",),
        "NothingToUndo": (),
    },
    "LimitError": {"TooMany": ("what", "limit")},
}
ALL = [(base, name, told) for base, classes in CLASSES.items() for name, told in classes.items()]


class TestErrors(Case):
    def test_bases(self):
        for base, builtin in BASES.items():
            self.assertEqual(base.__bases__, (builtin,))
            self.assertIs(getattr(errors, base.__name__), base)
        self.assertEqual(sorted(base.__name__ for base in BASES), sorted(CLASSES))

    def test_subclasses_are_direct(self):
        for base, name, _ in ALL:
            self.assertEqual(getattr(errors, name).__bases__, (getattr(errors, base),), name)

    def test_there_are_no_others(self):
        found = [name for name, thing in vars(errors).items() if isinstance(thing, type)]
        self.assertEqual(sorted(found), sorted([name for _, name, _ in ALL] + list(CLASSES)))

    def test_each_is_defined_there(self):
        for _, name, _ in ALL:
            self.assertEqual(getattr(errors, name).__module__, "stitchsizes.errors")

    def test_attributes_by_position_and_by_name(self):
        for _, name, told in ALL:
            made = getattr(errors, name)
            for given in values() + [Touchy()]:
                wanted = {key: given if at == 0 else object() for at, key in enumerate(told)}
                for error in (made(*wanted.values()), made(**wanted)):
                    self.assertEqual(list(vars(error)), list(told))
                    for key, value in wanted.items():
                        self.assertIs(getattr(error, key), value)

    def test_wrong_numbers_of_parameters(self):
        for _, name, told in ALL:
            if told:
                with self.assertRaises(TypeError):
                    getattr(errors, name)()
                with self.assertRaises(TypeError):
                    getattr(errors, name)(*range(len(told) + 1))

    def test_they_are_caught_by_their_bases(self):
        for base, name, told in ALL:
            for caught in (getattr(errors, name), getattr(errors, base), getattr(errors, base).__bases__[0]):
                with self.assertRaises(caught):
                    raise getattr(errors, name)(*told)

    def test_no_base_catches_another_one(self):
        for base, name, _ in ALL:
            for other in CLASSES:
                self.assertEqual(issubclass(getattr(errors, name), getattr(errors, other)), base == other)


if __name__ == "__main__":
    unittest.main()
