"""What several tests need: the path of the package, wrong values of many kinds, and a check of errors."""

import os
import random
import sys
import unittest

ROOT = os.path.dirname(os.path.dirname(os.path.abspath(__file__)))
if ROOT not in sys.path:
    sys.path.insert(0, ROOT)

from stitchsizes import errors  # noqa: E402
from stitchsizes.alike import Beside  # noqa: E402
from stitchsizes.cells import Cell  # noqa: E402
from stitchsizes.desk import Desk  # noqa: E402
from stitchsizes.fabrics import Fabric  # noqa: E402
from stitchsizes.families import Family  # noqa: E402
from stitchsizes.forms import Form  # noqa: E402
from stitchsizes.kinds import Book, Kind  # noqa: E402
from stitchsizes.longwords import LongWord  # noqa: E402
from stitchsizes.merging import SketchWork  # noqa: E402
from stitchsizes.patterns import Cut, Merge, Pattern, Repeat, Times, Until  # noqa: E402
from stitchsizes.pieces import pieces  # noqa: E402
from stitchsizes.rows import RowText  # noqa: E402
from stitchsizes.schedules import Along, Schedule, Sketch  # noqa: E402
from stitchsizes.sections import Evenly, Kept, Rested  # noqa: E402
from stitchsizes.sizes import Sizes  # noqa: E402
from stitchsizes.trees import compare  # noqa: E402
from stitchsizes.working import Work  # noqa: E402

USUAL = Book.usual()
OTHER_BOOK = Book(Kind("k", 1, 1), Kind("p", 1, 1))
FAR = 10 ** 30 - 1
BASES = {
    errors.StitchError: ValueError,
    errors.MissingError: LookupError,
    errors.StateError: RuntimeError,
    errors.LimitError: ArithmeticError,
}


class Touchy:
    """A value of another kind that must not be compared, measured, tested, hashed or shown."""

    def _refuse(self, *told):
        raise AssertionError("a value of another kind was touched")

    __eq__ = __ne__ = __lt__ = __le__ = __gt__ = __ge__ = __hash__ = __bool__ = __len__ = __iter__ = _refuse
    __contains__ = __getitem__ = __int__ = __index__ = __add__ = __radd__ = __mul__ = __rmul__ = __call__ = _refuse
    __str__ = __repr__ = _refuse


class Same:
    """A value of another kind that calls itself equal to everything."""

    __hash__ = None

    def __eq__(self, other):
        return True


def objects():
    """One object of each kind of the package."""
    family = Family(USUAL, [(("k",), Form(1))])
    row = RowText(Rested(USUAL, (), ("k",), ()))
    pattern = Pattern(USUAL, "round", [(4, 1)], [Repeat([row], 2)])
    schedule = Schedule(0, "left", ("ktog",), 0, 1, until=2)
    along = Along([row], [schedule])
    sketch = Sketch(USUAL, "round", [(4, 1)], [along])
    return [
        Kind("k", 1, 1), USUAL, LongWord(USUAL, [(("k",), 3)]), Rested(USUAL, (), ("k",), ()),
        Kept(USUAL, (), ("k", "p"), (), shift=1), Evenly(USUAL, ("yo",), 2, "k"), Form(1, 2, 3), Cell(Form(1)),
        family, compare(family, family, Cell()), row, Fabric(USUAL, 3), Repeat([row], 1), Times([row], 1, 0),
        Until([row], 0, "just", 4), Cut(0, "left", 1), Merge(0), pattern, Work(pattern, 0), Sizes.whole(),
        pieces(pattern)[0], schedule, along, sketch, SketchWork(sketch, 0), Beside(pattern, pattern), Desk(USUAL),
    ]


def values():
    """Values of many kinds. Each list is new."""
    return [
        None, True, False, 0, 1, -1, 5, FAR, -FAR, "", "k", "p", "K", "k ", "abcdefgh", "abcdefghi", "k3", "1", "round",
        b"k", (), ("k",), ("k", "p"), ("p", 1), ("k", None), (("k",),), (("k",), 1), (1, 2), (0, 0), (True, 0), (0, -1),
        (1, 2, 3), [], ["k"], [1, 2], [("k",)], {}, {"k": 1}, {1, 2}, frozenset(), range(3), object(), Touchy(), Same(),
        int, Kind, len, errors.InvalidName, errors.NoRow(1), *objects(),
    ]


def only(test):
    """Those of the values for which a test holds. Tests ask with `is` and isinstance first."""
    return [value for value in values() if test(value)]


def is_int(value):
    return isinstance(value, int) and value is not True and value is not False


def no_count(value):
    return not is_int(value) or value < 0


def no_name(value):
    return not (isinstance(value, str) and value in ("k", "p", "round", "abcdefgh"))


def no_kind_name(value):
    return not (isinstance(value, str) and value in ("k", "p"))


def no_book(value):
    return not isinstance(value, Book)


def no_list(value):
    return not isinstance(value, (list, tuple))


def no_text(value):
    return not isinstance(value, (Rested, Kept, Evenly))


def no_row(value):
    return not isinstance(value, RowText)


def no_pattern(value):
    return not isinstance(value, Pattern)


def no_sketch(value):
    return not isinstance(value, Sketch)


def no_word(value):
    """Of the values only these are words of the usual book."""
    return not (isinstance(value, tuple) and all(isinstance(name, str) for name in value))


def drawn(seed):
    return random.Random(seed)


def drawn_word(chance, names, most):
    return tuple(chance.choice(names) for _ in range(chance.randint(0, most)))


class Case(unittest.TestCase):
    """Checks of errors and of what objects never do."""

    def fails(self, kind, told, call, *args, **kwargs):
        """The call raises just this error, with these attributes; a value is the very one that was passed."""
        try:
            answer = call(*args, **kwargs)
        except Exception as error:  # the class is compared below
            found = error
        else:
            self.fail(f"no {kind.__name__}, but {type(answer).__name__}")
        if type(found) is not kind:
            raise AssertionError(f"{type(found).__name__} in place of {kind.__name__}") from found
        self.assertEqual(sorted(vars(found)), sorted(told))
        for name, value in told.items():
            got = getattr(found, name)
            if got is value:
                continue
            self.assertIs(type(got), type(value), name)
            self.assertIn(type(value), (int, str, tuple), f"{name} is a copy")
            self.assertEqual(got, value, name)

    def all_fail(self, kind, attribute, wrong, call):
        """Each wrong value raises the error, with this value as the attribute."""
        self.assertGreater(len(wrong), 20)
        for value in wrong:
            with self.subTest(kind=type(value).__name__):
                self.fails(kind, {attribute: value}, call, value)

    def equal_only_to(self, thing, *same):
        """An object is equal to these, and to no value of another kind."""
        for other in same:
            self.assertTrue(thing == other)
            self.assertTrue(other == thing)
            self.assertFalse(thing != other)
        for value in values():
            if type(value) is not type(thing):
                self.assertIs(thing == value, False)
                self.assertIs(thing != value, True)

    def is_fixed(self, thing, *names):
        """The properties cannot be assigned."""
        for name in names:
            with self.assertRaises(AttributeError):
                setattr(thing, name, getattr(thing, name))
