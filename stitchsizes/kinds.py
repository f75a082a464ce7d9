"""Kinds of stitches, books of them, and the words of a book."""

from stitchsizes.checks import is_count_to, is_name
from stitchsizes.errors import (
    InvalidBook, InvalidKind, InvalidName, InvalidNumber, InvalidWord, NoBack, NoMirror, TooMany, UnknownKind,
)

_MOST_LOOPS = 6
_MOST_YARN = 999
_MOST_KINDS = 24
_MOST_NAMES = 240

_USUAL = (
    ("k", 1, 1, "p", "k"),
    ("p", 1, 1, "k", "p"),
    ("yo", 0, 1, "yo", "yo"),
    ("ktog", 2, 1, "ptog", "ssk"),
    ("ssk", 2, 1, "ssp", "ktog"),
    ("ptog", 2, 1, "ktog", "ssp"),
    ("ssp", 2, 1, "ssk", "ptog"),
    ("cdd", 3, 1, None, "cdd"),
    ("kfb", 1, 2, None, "kfb"),
    ("bo", 1, 0, "bo", "bo"),
)


class Kind:
    """A kind of stitch: how many loops it takes and makes, what it looks like, and its yarn."""

    def __init__(self, name, takes, makes, *, back=None, mirror=None, yarn=1):
        if not is_name(name):
            raise InvalidName(name)
        for twin in (back, mirror):
            if twin is not None and not is_name(twin):
                raise InvalidName(twin)
        for loops in (takes, makes):
            if not is_count_to(loops, _MOST_LOOPS):
                raise InvalidNumber(loops)
        if not is_count_to(yarn, _MOST_YARN):
            raise InvalidNumber(yarn)
        if takes == 0 and makes == 0:
            raise InvalidKind(name)
        self._name = name
        self._takes = takes
        self._makes = makes
        self._back = back
        self._mirror = mirror
        self._yarn = yarn

    @property
    def name(self):
        """The name of the kind."""
        return self._name

    @name.setter
    def name(self, value):
        # Errors assign attributes of this name, so the property needs a setter; a kind does not change.
        raise AttributeError("name")

    @property
    def takes(self):
        """How many loops of the row below it takes."""
        return self._takes

    @property
    def makes(self):
        """How many loops it makes."""
        return self._makes

    @property
    def back(self):
        """The name of the kind that it looks like from behind, or None."""
        return self._back

    @property
    def mirror(self):
        """The name of the kind that it looks like in a mirror, or None."""
        return self._mirror

    @property
    def yarn(self):
        """How much yarn it needs."""
        return self._yarn

    def __eq__(self, other):
        return isinstance(other, Kind) and _numbers_and_names(self) == _numbers_and_names(other)

    def __repr__(self):
        words = [repr(self._name), repr(self._takes), repr(self._makes)]
        if self._back is not None:
            words.append(f"back={self._back!r}")
        if self._mirror is not None:
            words.append(f"mirror={self._mirror!r}")
        if self._yarn != 1:
            words.append(f"yarn={self._yarn!r}")
        return f"Kind({', '.join(words)})"


class Book:
    """The kinds that a pattern may use, by their names."""

    def __init__(self, *kinds):
        for kind in kinds:
            if not isinstance(kind, Kind):
                raise InvalidKind(kind)
        if len(kinds) > _MOST_KINDS:
            raise TooMany("kinds", _MOST_KINDS)
        if not kinds:
            raise InvalidBook("none", None)
        _check_kinds(kinds)
        self._kinds = tuple(sorted(kinds, key=lambda kind: kind.name))
        self._table = {kind.name: kind for kind in kinds}

    @classmethod
    def usual(cls):
        """The book of the ten usual kinds."""
        kinds = [Kind(name, takes, makes, back=back, mirror=mirror) for name, takes, makes, back, mirror in _USUAL]
        return cls(*kinds)

    def kind(self, name):
        """The kind with a name."""
        if name not in self:
            raise UnknownKind(name)
        return self._table[name]

    def names(self):
        """The names of the kinds, sorted."""
        return [kind.name for kind in self._kinds]

    def is_word(self, value):
        """Whether any value is a word of this book."""
        if not isinstance(value, tuple) or len(value) > _MOST_NAMES:
            return False
        table = self._table
        return all([isinstance(name, str) and name in table for name in value])

    def taken(self, word):
        """How many loops a word takes."""
        return sum([kind.takes for kind in self._kinds_of(word)])

    def made(self, word):
        """How many loops a word makes."""
        return self.loops_made(word)

    def loops_made(self, word):
        """How many loops a word makes, under a name that no other class has."""
        # Properties may call only what no method of the same name, in whatever class, can fail with: `made` of section
        # texts raises NotFitting, which gives itself attributes that are properties elsewhere.
        return sum([kind.makes for kind in self._kinds_of(word)])

    def yarn_of(self, word):
        """How much yarn a word needs."""
        return sum([kind.yarn for kind in self._kinds_of(word)])

    def turned(self, word):
        """The word as it is worked from the wrong side."""
        kinds = self._kinds_of(word)
        for kind in kinds:
            if kind.back is None:
                raise NoBack(kind.name)
        return tuple([kind.back for kind in kinds[::-1]])

    def mirrored(self, word):
        """The word as it is seen in a mirror."""
        kinds = self._kinds_of(word)
        for kind in kinds:
            if kind.mirror is None:
                raise NoMirror(kind.name)
        return tuple([kind.mirror for kind in kinds[::-1]])

    def _kinds_of(self, word):
        """The list of the kinds of a word."""
        if not self.is_word(word):
            raise InvalidWord(word)
        return [self._table[name] for name in word]

    def __len__(self):
        return len(self._kinds)

    def __contains__(self, x):
        return isinstance(x, str) and x in self._table

    def __iter__(self):
        return iter(self._kinds)

    def __eq__(self, other):
        return isinstance(other, Book) and self._kinds == other._kinds


def _numbers_and_names(kind):
    return (kind.name, kind.takes, kind.makes, kind.back, kind.mirror, kind.yarn)


def _check_kinds(kinds):
    """Raises InvalidBook with the first problem of the kinds, and the first kind that has it."""
    table = {}
    for kind in kinds:
        if kind.name in table:
            raise InvalidBook("taken", kind.name)
        table[kind.name] = kind
    for kind in kinds:
        if kind.back is not None and not _is_back(table.get(kind.back), kind):
            raise InvalidBook("back", kind.name)
    for kind in kinds:
        if kind.mirror is not None and not _is_mirror(table.get(kind.mirror), kind):
            raise InvalidBook("mirror", kind.name)
    for kind in kinds:
        if kind.back is not None and kind.mirror is not None and not _both_agree(table, kind):
            raise InvalidBook("both", kind.name)


def _is_back(twin, kind):
    return twin is not None and twin.back == kind.name and _same_loops(twin, kind)


def _is_mirror(twin, kind):
    return twin is not None and twin.mirror == kind.name and _same_loops(twin, kind)


def _same_loops(one, other):
    return one.takes == other.takes and one.makes == other.makes


def _both_agree(table, kind):
    """Whether the mirror of a kind's back is the back of its mirror, and there is one."""
    behind = table[kind.back]
    mirrored = table[kind.mirror]
    return behind.mirror is not None and behind.mirror == mirrored.back
