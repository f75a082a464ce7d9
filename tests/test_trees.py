"""Comparing trees: [35], [36], WHERE TWO ROWS AGREE, CHECKED, and the interface of trees.py."""

import unittest
from math import lcm

from support import Case, FAR, OTHER_BOOK, USUAL, drawn, no_text, only, values
from test_families import X, Y, drawn_parts, drawn_text, family, number, order_by_words, written
from stitchsizes.cells import Cell
from stitchsizes.errors import (
    BelowZero, InvalidBooks, InvalidCell, InvalidFamily, InvalidPoint, InvalidTexts, TooMany,
)
from stitchsizes.families import Family, period_of
from stitchsizes.forms import Form
from stitchsizes.kinds import Book
from stitchsizes.sections import Evenly, Kept, Rested
from stitchsizes.trees import Tree, agreed, compare, first_unlike, is_tree, texts_compared

BIG = 10 ** 26 - 7
HEADS = {"alike": 1, "parts": 2, "same": 1, "apart": 2}


class NoTree(Exception):
    pass


def nested(value):
    """The tree with sons in the place of their positions; NoTree if the positions make no tree."""
    used = [0]

    def node(at):
        told = value[at]
        if not isinstance(told, tuple) or not told or not isinstance(told[0], str) or told[0] not in HEADS:
            raise NoTree()
        begin = HEADS[told[0]]
        if any(type(part) not in (str, int) for part in told[:begin]):
            raise NoTree()
        return told[:begin] + sons(at, told[begin:])

    def sons(at, parts):
        return tuple(sons(at, part) if isinstance(part, tuple) else son(at, part) for part in parts)

    def son(at, position):
        if position is None:
            return None
        if type(position) is not int or not at < position < len(value) or position in used:
            raise NoTree()
        used.append(position)
        return node(position)

    if not isinstance(value, tuple) or not value:
        raise NoTree()
    told = node(0)
    if len(used) != len(value):
        raise NoTree()
    return told


def tree_by_words(one, other, cell):
    """The nested tree and its leaves (cell, place, name, name), as [35] tells it: one letter after the other."""
    leaves = []

    def front(items, many):
        letters = []
        for item in items:
            if not isinstance(item, str):
                return (letters + list(item[0]) * many)[:many]
            letters.append(item)
        return (letters + [None] * many)[:many]

    def parted(cell, one, other, place, d):
        leaves.append((cell, place + d, front(one, d + 1)[d], front(other, d + 1)[d]))
        return ("parts", d)

    def power(items):
        at = [at for at, item in enumerate(items) if not isinstance(item, str)]
        return at[0] if at else None

    def lengths(items, d):
        at = power(items)
        return [] if at is None else [c for c in range(d + 2) if at + c * len(items[at][0]) <= d]

    def at_length(items, c):
        at = power(items)
        return items[:at] + list(items[at][0]) * c + items[at + 1:]

    def longer(cell, items, cs):
        return cell.with_conditions(*[items[power(items)][1] - c - 1 for c in cs])

    def is_form(cell, items, c):
        form = items[power(items)][1]
        return cell.with_conditions(form - c, -(form - c))

    def node(cell, one, other, place):
        if cell.is_empty:
            return None
        one, other = order_by_words(one), order_by_words(other)
        while one and other and isinstance(one[0], str) and one[0] == other[0]:
            one, other, place = one[1:], other[1:], place + 1
        if not one and not other:
            leaves.append((cell, None, None, None))
            return ("alike",)
        if power(one[:1]) is None and power(other[:1]) is None:
            return parted(cell, one, other, place, 0)
        if power(one[:1]) == 0 == power(other[:1]) and one[0][0] == other[0][0]:
            (word, e), f, length = one[0], other[0][1], len(one[0][0])
            return (
                "same",
                node(cell.with_conditions(f - e - 1), one[1:], [(word, f - e), *other[1:]], place + e * length),
                node(cell.with_conditions(f - e, e - f), one[1:], other[1:], place + e * length),
                node(cell.with_conditions(e - f - 1), [(word, e - f), *one[1:]], other[1:], place + f * length),
            )
        many = 10 + sum(1 if isinstance(item, str) else len(item[0]) for item in one + other)
        d = [at for at in range(many) if front(one, many)[at] != front(other, many)[at]][0]
        ones = tuple(node(is_form(cell, one, c), at_length(one, c), other, place) for c in lengths(one, d))
        rest = longer(cell, one, lengths(one, d))
        others = tuple(node(is_form(rest, other, c), one, at_length(other, c), place) for c in lengths(other, d))
        rest = longer(rest, other, lengths(other, d))
        return ("apart", d, ones, others, None if rest.is_empty else parted(rest, one, other, place, d))

    if cell.is_empty:
        return ("alike",), [(cell, None, None, None)]
    return node(cell, list(one.parts), list(other.parts), Form()), leaves


def changed(chance, parts):
    """Other parts that are nearly, or just, the same family."""
    new = []
    for word, form in parts:
        way = chance.randint(0, 6)
        if isinstance(form, int) or way == 0:
            new.append((word, form))
        elif way == 1:
            new.extend([(word, Form(form.x, 0, 0)), (word, Form(0, form.y, form.constant))])
        elif way == 2:
            new.extend([(word[:1], 1), (word[1:] + word[:1], form), *([(word[1:], 1)] if word[1:] else [])])
        elif way == 3:
            new.append((word, Form(form.y, form.x, form.constant)))
        elif way == 4:
            new.append((word * 2, form))
        elif way == 5:
            new.append((word, form + chance.randint(0, 1)))
        else:
            new.append((word, form))
    return new


def drawn_cell(chance):
    return Cell(*[Form(chance.randint(-2, 2), chance.randint(-2, 2), chance.randint(-4, 6))
                  for _ in range(chance.randint(0, 2))])


def drawn_case(chance, many=4):
    """Two families and a cell over which both are."""
    parts = drawn_parts(chance, many)
    others = changed(chance, parts) if chance.random() < 0.8 else drawn_parts(chance, many)
    return Family(USUAL, parts), Family(USUAL, others), drawn_cell(chance)


def unlike(letters, others):
    """The first place at which two lists of letters differ, and the letters there, or None."""
    for place in range(max(len(letters), len(others))):
        one, other = (found[place] if place < len(found) else None for found in (letters, others))
        if one != other:
            return (place, one, other)
    return None


def unlike_words(one, other):
    """The same for long words."""
    place = one.first_difference(other)
    if place is None:
        return None
    return (place, *[(word.letters(place, 1) or [None])[0] for word in (one, other)])


def reordered(chance, nodes):
    """The same tree, with its nodes in another sequence."""
    parents = {}
    for at, told in enumerate(nodes):
        for part in told[HEADS[told[0]]:]:
            for son in part if isinstance(part, tuple) else (part,):
                if son is not None:
                    parents[son] = at
    places, free = {}, [0]
    while free:
        at = free.pop(chance.randrange(len(free)))
        places[at] = len(places)
        free.extend(son for son, parent in parents.items() if parent == at)

    def put(part):
        if isinstance(part, tuple):
            return tuple(put(inner) for inner in part)
        return None if part is None else places[part]

    new = [None] * len(nodes)
    for at, told in enumerate(nodes):
        begin = HEADS[told[0]]
        new[places[at]] = told[:begin] + put(told[begin:])
    return tuple(new)


def spoilt(chance, nodes):
    """The nodes with one thing changed."""
    at = chance.randrange(len(nodes))
    told = list(nodes[at])
    way = chance.randint(0, 9)
    if way == 0:
        return nodes[:at] + nodes[at + 1:]
    if way == 1:
        return nodes[:at] + nodes[at:at + 1] + nodes[at:]
    if way == 2:
        return nodes + (("alike",),)
    if way == 3:
        return nodes[:at] + (list(nodes[at]),) + nodes[at + 1:]
    if way == 4:
        return list(nodes)
    if way == 5:
        told.append(None)
    elif way == 6:
        told.pop()
    else:
        place = chance.randrange(len(told))
        part = told[place]
        if isinstance(part, tuple) and part and way < 9:
            inner = list(part)
            inner[chance.randrange(len(part))] = chance.choice([None, at + 1, True, len(nodes), 0])
            told[place] = tuple(inner) if way == 7 else inner
        else:
            told[place] = chance.choice([None, True, False, 0, 1, 2, at, at + 1, -1, "alike", "parts", "same", (), (1,)])
    return nodes[:at] + (tuple(told),) + nodes[at + 1:]


class TestCompare(Case):
    def test_document(self):
        tree = compare(family(("k", X), ("p", 1), ("k", Y)), family(("k", Y), ("p", 1), ("k", X)), Cell())
        self.assertEqual([tree.at(3, 3), tree.at(2, 5), tree.at(5, 2), tree.least()],
                         [None, (2, "p", "k"), (2, "k", "p"), ((0, 1), 0, "p", "k")])
        leaf, same = ("parts", 0), ("same", None, ("alike",), None)
        self.assertEqual(nested(tree.nodes), ("same", ("apart", 0, (), (None,), leaf), same,
                                              ("apart", 0, (None,), (), leaf)))
        self.assertEqual(len(tree), 7)
        self.assertIs(type(tree), Tree)
        self.assertIs(type(tree.nodes), tuple)

    def test_told_forms(self):
        cell = Cell()
        for one, other, wanted in (
            (family(), family(), ("alike",)),
            (family(("k p", 1)), family(("k", 1), ("p", 1)), ("alike",)),
            (family(("k p", 1)), family(("k p p", 1)), ("parts", 0)),
            (family(("k p", 1)), family(("k yo", 1)), ("parts", 0)),
            (family(("k p", X)), family(("k p", X)), ("same", None, ("alike",), None)),
            (family(("k p", X)), family(("k p k p", X)),
             ("same", ("apart", 0, (), (None,), ("parts", 0)), ("alike",), None)),
            # The rest that has no power gives an empty tuple, and its end is its front.
            (family(("k p", X)), family(), ("apart", 0, (("alike",),), (), ("parts", 0))),
            (family(), family(("k p", X)), ("apart", 0, (), (("alike",),), ("parts", 0))),
            (family(("k", X)), family(("k k", 1)),
             ("apart", 2, (("parts", 0), ("parts", 0), ("alike",)), (), ("parts", 2))),
            (family(("k", X)), family(("p k", Y)),
             ("apart", 0, (("apart", 0, (), (("alike",),), ("parts", 0)),), (("apart", 0, (None,), (), ("parts", 0)),),
              ("parts", 0))),
        ):
            with self.subTest(wanted=wanted):
                told = compare(one, other, cell)
                self.assertEqual(nested(told.nodes), wanted)
                self.assertEqual(tree_by_words(one, other, cell)[0], wanted)

    def test_empty_cells(self):
        empty = Cell(-X - 1)
        tree = compare(family(("k", X)), family(("p", Y - 4)), empty)
        self.assertEqual(tree.nodes, (("alike",),))
        self.assertEqual((len(tree), tree.is_alike, tree.least()), (1, True, None))
        self.assertEqual(list(tree.leaves()), [(empty, None, None, None)])
        self.fails(InvalidPoint, {"value": (0, 0)}, tree.at, 0, 0)
        self.assertTrue(all(cell.is_empty for cell in agreed(family(("k", X)), family(), empty)))
        self.assertIs(is_tree(family(("k", X)), family(), empty, (("alike",),)), True)
        self.assertIs(is_tree(family(("k", X)), family(), empty, (("parts", 0),)), False)
        self.assertIs(is_tree(family(), family(), Cell(), (("alike",),)), True)

    def test_drawn_trees(self):
        chance = drawn(111)
        heads = dict.fromkeys(HEADS, 0)
        for _ in range(700):
            one, other, cell = drawn_case(chance)
            tree = compare(one, other, cell)
            wanted, leaves = tree_by_words(one, other, cell)
            self.assertEqual(nested(tree.nodes), wanted)
            self.assertEqual(len(tree), len(tree.nodes))
            told = list(tree.leaves())
            self.assertEqual(len(told), len(leaves))
            for leaf in leaves:
                self.assertIn(leaf[0], [cell for cell, _, _, _ in told])
            self.assertIs(tree.is_alike, all(leaf[1] is None for leaf in leaves))
            for node in tree.nodes:
                heads[node[0]] += 1
        self.assertGreater(min(heads.values()), 200)

    def test_points_of_leaves(self):
        chance = drawn(112)
        for _ in range(500):
            one, other, cell = drawn_case(chance, chance.choice([2, 5]))
            tree = compare(one, other, cell)
            unlike_points = []
            cells = agreed(one, other, cell)
            for x in range(6):
                for y in range(6):
                    lying = [leaf for leaf in tree.leaves() if (x, y) in leaf[0]]
                    self.assertEqual(len(lying), int((x, y) in cell))
                    if not lying:
                        self.fails(InvalidPoint, {"value": (x, y)}, tree.at, x, y)
                        self.assertFalse(any((x, y) in found for found in cells))
                        continue
                    wanted = unlike(written(one.parts, x, y), written(other.parts, x, y))
                    _, place, name, twin = lying[0]
                    self.assertEqual(None if place is None else (place.at(x, y), name, twin), wanted)
                    self.assertEqual(tree.at(x, y), wanted)
                    self.assertEqual(sum((x, y) in found for found in cells), int(wanted is None))
                    if wanted is not None:
                        unlike_points.append(((x, y), *wanted))
            least = tree.least()
            if unlike_points:
                first = unlike_points[0]
                self.assertTrue(least == first or least[0] < first[0] and least[0][1] > 5)
            elif least is not None:
                self.assertGreater(max(least[0]), 5)
            if least is not None:
                self.assertEqual(least[1:], unlike(written(one.parts, *least[0]), written(other.parts, *least[0])))
            self.assertIs(tree.is_alike, least is None)

    def test_sequence_of_leaves(self):
        chance = drawn(113)
        for _ in range(100):
            one, other, cell = drawn_case(chance)
            tree = compare(one, other, cell)
            told = [node[0] for node in tree.nodes if node[0] in ("alike", "parts")]
            found = ["alike" if place is None else "parts" for _, place, _, _ in tree.leaves()]
            self.assertEqual(found, told)

    def test_cells_of_leaves(self):
        one, other = family(("k", X), ("p", 1)), family(("k", Y), ("p", 1))
        told = {str(place): (cell, name, twin) for cell, place, name, twin in compare(one, other, Cell()).leaves()}
        self.assertEqual(told["x"], (Cell(Y - X - 1), "p", "k"))
        self.assertEqual(told["y"], (Cell(X - Y - 1), "k", "p"))
        self.assertEqual(told["None"], (Cell(Y - X, X - Y), None, None))
        self.assertEqual(len(told), 3)
        one, other = family(("k p", X), ("k", 1)), family(("k yo", Y))
        tree = compare(one, other, Cell())
        self.assertEqual([leaf for leaf in tree.leaves() if leaf[0] == Cell(X - 1, Y - 1)],
                         [(Cell(X - 1, Y - 1), number(1), "p", "yo")])
        self.assertEqual((tree.at(0, 0), tree.at(0, 3), tree.at(2, 0)), ((0, "k", None), (1, None, "yo"), (0, "k", None)))

    def test_one_point_and_no_end(self):
        one, other = family(("k", X), ("p", Y)), family(("k", Y), ("p", X))
        point = Cell(X - 3, -X + 3, Y - 5, -Y + 5)
        self.assertEqual(compare(one, other, point).least(), ((3, 5), 3, "p", "k"))
        self.assertIsNone(compare(one, other, Cell(X - 3, -X + 3, Y - 3, -Y + 3)).least())
        far = compare(one, other, Cell(X - BIG, Y - X))
        self.assertEqual(far.least(), ((BIG, BIG + 1), BIG, "p", "k"))
        self.assertEqual(compare(one, other, Cell(X - Y, Y - X)).least(), None)

    def test_far(self):
        chance = drawn(114)
        parted = 0
        for _ in range(250):
            parts = [(word, form * chance.randint(1, 9) + chance.choice([0, chance.randint(0, BIG)]))
                     if isinstance(form, Form) else (word, form) for word, form in drawn_parts(chance, 4)]
            one, other = Family(USUAL, parts), Family(USUAL, changed(chance, parts))
            corner = (chance.randint(0, BIG), chance.randint(0, BIG))
            cell = Cell(X - corner[0], Y - corner[1], Form(chance.randint(-2, 3), chance.randint(0, 3), 0))
            tree = compare(one, other, cell)
            self.assertIs(is_tree(one, other, cell, reordered(chance, tree.nodes)), True)
            cells = agreed(one, other, cell)
            for dx in range(3):
                for dy in range(3):
                    point = (corner[0] + dx * chance.choice([1, 10 ** 20]), corner[1] + dy * chance.randint(1, BIG))
                    if point not in cell:
                        continue
                    wanted = unlike_words(one.at(*point), other.at(*point))
                    self.assertEqual(tree.at(*point), wanted)
                    self.assertEqual(sum(point in leaf[0] for leaf in tree.leaves()), 1)
                    self.assertEqual(sum(point in found for found in cells), int(wanted is None))
            least = tree.least()
            if least is not None:
                parted += 1
                self.assertEqual(least[1:], unlike_words(one.at(*least[0]), other.at(*least[0])))
                if cell.least() != least[0]:
                    self.assertIsNone(tree.at(*cell.least()))
        self.assertGreater(parted, 80)

    def test_great_numbers(self):
        one, other = family(("k p", X + BIG), ("k", 1)), family(("k", 1), ("p k", Y + BIG))
        tree = compare(one, other, Cell())
        self.assertEqual(tree.least(), ((0, 1), 2 * BIG + 1, None, "p"))
        self.assertIsNone(tree.at(FAR, FAR))
        self.assertEqual(tree.at(FAR, FAR - 5), (2 * (FAR - 5 + BIG) + 1, "p", None))

    def test_equality(self):
        one, other, cell = family(("k", X)), family(("k", Y)), Cell(X - 1)
        self.equal_only_to(compare(one, other, cell), compare(one=one, other=other, cell=Cell(X * 2 - 1)),
                           compare(family(("k", X)), other, cell))
        self.assertTrue(compare(one, other, cell) != compare(one, other, Cell()))
        self.assertTrue(compare(one, other, cell) != compare(other, one, cell))
        self.assertTrue(compare(one, one, cell) != compare(one + family(), family(("k", X), ("p", 0)), cell))
        self.is_fixed(compare(one, other, cell), "nodes", "is_alike")

    def test_at_no_point(self):
        tree = compare(family(("k", X)), family(("k", X)), Cell(X - 2))
        self.assertIsNone(tree.at(2))
        self.assertIsNone(tree.at(x=2, y=7))
        for value in values():
            if isinstance(value, int) and value is not True and value > 1:
                continue
            with self.assertRaises(InvalidPoint) as caught:
                tree.at(value)
            self.assertIs(caught.exception.value[0], value)
            with self.assertRaises(InvalidPoint) as caught:
                tree.at(1, value)
            self.assertIs(caught.exception.value[1], value)


class TestErrors(Case):
    CALLS = (compare, agreed, lambda one, other, cell: is_tree(one, other, cell, None))

    def test_families(self):
        good = family(("k", X))
        for call in self.CALLS:
            for value in [value for value in values() if not isinstance(value, Family)]:
                self.fails(InvalidFamily, {"value": value}, call, value, None, None)
                self.fails(InvalidFamily, {"value": value}, call, good, value, None)

    def test_books(self):
        good, foreign = family(("k", X)), Family(OTHER_BOOK, [(("k",), X)])
        for call in self.CALLS:
            self.fails(InvalidBooks, {}, call, good, foreign, None)
            self.fails(InvalidBooks, {}, call, foreign, good, Cell())
            call(good, Family(Book(*USUAL), [(("p",), X)]), Cell())

    def test_cells(self):
        good = family(("k", X))
        below = family(("k", X - 3))
        for call in self.CALLS:
            for value in [value for value in values() if not isinstance(value, Cell)]:
                self.fails(InvalidCell, {"position": None}, call, good, below, value)

    def test_below_zero(self):
        good, one, other = family(("k", X)), family(("k", X), ("p", X - 2)), family(("k", Y - 1), ("p", X - 3))
        for call in self.CALLS:
            self.fails(BelowZero, {"position": 1}, call, one, other, Cell())
            self.fails(BelowZero, {"position": 0}, call, other, one, Cell())
            self.fails(BelowZero, {"position": 0}, call, good, other, Cell(X - 2))
            self.fails(BelowZero, {"position": 1}, call, one, other, Cell(X - 1, Y - 1))
            self.fails(BelowZero, {"position": 1}, call, one, other, Cell(X - 2, Y - 1))
            call(one, other, Cell(X - 3, Y - 1))
            call(one, other, Cell(X - 1, -X))

    def test_too_many_nodes(self):
        one = family(("k", X))
        # A node for each number of k up to that of the other family, one beyond, and the first one.
        for letters, too_many in ((19997, False), (19998, True)):
            other = family(*[("k " * 200, 1)] * (letters // 200), ("k " * (letters % 200), 1))
            for call in self.CALLS:
                if too_many:
                    self.fails(TooMany, {"what": "nodes", "limit": 20000}, call, one, other, Cell())
                else:
                    call(one, other, Cell())
            if not too_many:
                tree = compare(one, other, Cell())
                self.assertEqual((len(tree), tree.least()), (20000, ((0, 0), 0, None, "k")))
                self.assertEqual((tree.at(letters), tree.at(letters + 1, 5)), (None, (letters, "k", None)))
                self.assertIs(is_tree(one, other, Cell(), tree.nodes), True)
            # An earlier error is raised first.
            self.fails(BelowZero, {"position": 1}, compare, one + family(("p", Y - 1)), other, Cell())


class TestIsTree(Case):
    def test_other_sequences(self):
        chance = drawn(115)
        moved = 0
        for _ in range(400):
            one, other, cell = drawn_case(chance, 6)
            tree = compare(one, other, cell)
            for _ in range(3):
                value = reordered(chance, tree.nodes)
                moved += value != tree.nodes
                self.assertEqual(nested(value), nested(tree.nodes))
                self.assertIs(is_tree(one, other, cell, value), True)
            self.assertIs(is_tree(one=one, other=other, cell=cell, value=tree.nodes), True)
        self.assertGreater(moved, 150)

    def test_spoilt(self):
        chance = drawn(116)
        refused = 0
        for _ in range(300):
            one, other, cell = drawn_case(chance, 5)
            nodes = compare(one, other, cell).nodes
            wanted = nested(nodes)
            for _ in range(12):
                value = spoilt(chance, reordered(chance, nodes))
                try:
                    good = nested(value) == wanted
                except NoTree:
                    good = False
                self.assertIs(is_tree(one, other, cell, value), good, value)
                refused += not good
        self.assertGreater(refused, 3000)

    def test_trees_of_others(self):
        chance = drawn(117)
        unlike_trees = 0
        for _ in range(150):
            one, other, cell = drawn_case(chance)
            two, twin, hall = drawn_case(chance)
            nodes, others = compare(one, other, cell).nodes, compare(two, twin, hall).nodes
            self.assertIs(is_tree(one, other, cell, others), nested(nodes) == nested(others))
            unlike_trees += nested(nodes) != nested(others)
        self.assertGreater(unlike_trees, 100)

    def test_any_value(self):
        one, other = family(("k", X)), family(("k", Y))
        nodes = compare(one, other, Cell()).nodes
        self.assertIs(is_tree(one, other, Cell(), nodes), True)
        for value in values():
            self.assertIs(is_tree(one, other, Cell(), value), False)
            self.assertIs(is_tree(one, other, Cell(), (value,)), False)
            self.assertIs(is_tree(one, other, Cell(), (value, *nodes[1:])), False)
            self.assertIs(is_tree(one, other, Cell(), (*nodes[:-1], value)), False)
            for at in range(1, len(nodes[0])):
                if not (isinstance(value, int) and value == nodes[0][at]) or value is True:
                    told = nodes[0][:at] + (value,) + nodes[0][at + 1:]
                    self.assertIs(is_tree(one, other, Cell(), (told, *nodes[1:])), False)
            told = (value, *nodes[0][1:])
            self.assertIs(is_tree(one, other, Cell(), (told, *nodes[1:])), False)

    def test_special_faults(self):
        one, other = family(("k", X), ("p", 1)), family(("k", Y), ("p", 1))
        less, more = ("apart", 0, (), (None,), 4), ("apart", 0, (None,), (), 5)
        good = (("same", 1, 2, 3), less, ("alike",), more, ("parts", 0), ("parts", 0))
        self.assertIs(is_tree(one, other, Cell(), good), True)
        for at, told in (
            (0, ("same", 1, 2, 4)), (0, ("same", True, 2, 3)), (0, ["same", 1, 2, 3]), (0, ("same", 1, 2)),
            (0, ("same", 1, 2, 3, None)), (0, ("same", 1, None, 3)), (1, ("apart", False, (), (None,), 4)),
            (1, ("apart", 0, [], (None,), 4)), (1, ("apart", 0, (), None, 4)), (1, ("apart", 0, (), (), 4)),
            (1, ("apart", 1, (), (None,), 4)), (1, ("apart", 0, None, (None,), 4)), (3, ("apart", 0, (None,), (), 4)),
            (2, ("alike", None)), (2, ("parts", 0)), (4, ("parts", False)), (4, ("parts", 1)), (4, ("parts",)),
            (5, ("alike",)),
        ):
            self.assertIs(is_tree(one, other, Cell(), good[:at] + (told,) + good[at + 1:]), False, told)
        # A son before its node, a node that is no son, and one that is the son of two.
        before = (("same", 2, 3, 4), ("parts", 0), ("apart", 0, (), (None,), 1), ("alike",),
                  ("apart", 0, (None,), (), 5), ("parts", 0))
        self.assertIs(is_tree(one, other, Cell(), before), False)
        self.assertIs(is_tree(one, other, Cell(), good + (("parts", 0),)), False)
        self.assertIs(is_tree(one, other, Cell(), good[:3] + (("apart", 0, (None,), (), 4),) + good[4:5]), False)
        self.assertIs(is_tree(one, other, Cell(), good[::-1]), False)
        self.assertIs(is_tree(one, other, Cell(), ()), False)


class TestTexts(Case):
    def test_drawn(self):
        chance = drawn(118)
        parted = alike = 0
        for _ in range(250):
            one = drawn_text(chance, ("k", "p"))
            other = drawn_text(chance, ("k", "p")) if chance.random() < 0.7 else one
            told = list(texts_compared(one, other))
            step = lcm(period_of(one), period_of(other))
            firsts = [first for first, _, _ in told]
            self.assertEqual(firsts, sorted(set(firsts)))
            self.assertLessEqual(max(firsts, default=0) - min(firsts, default=0), step)
            found = None
            for loops in range(60):
                fitting = [(first, tree) for first, many, tree in told
                           if loops == first or many and loops >= first and (loops - first) % many == 0]
                self.assertEqual(len(fitting), int(one.fits(loops) and other.fits(loops)))
                if fitting:
                    first, tree = fitting[0]
                    wanted = unlike(*[text.word(loops).letters(0, 200) for text in (one, other)])
                    self.assertEqual(tree.at((loops - first) // step if step else 0), wanted)
                    if wanted is not None and found is None:
                        found = (loops, *wanted)
            for first, many, tree in told:
                self.assertEqual((type(first), many, type(tree)), (int, step, Tree))
                self.fails(InvalidPoint, {"value": (0, 1)}, tree.at, 0, 1)
            self.assertEqual(first_unlike(one=one, other=other), found)
            parted += found is not None
            alike += found is None and len(told) > 0
        self.assertTrue(parted > 50 and alike > 30)

    def test_edges(self):
        plain, lace = Rested(USUAL, ("k",) * 5, (), ()), Rested(USUAL, ("k",), ("k", "p"), ())
        (first, step, tree), = texts_compared(plain, lace)
        self.assertEqual((first, step, tree.at(0)), (5, 0, (2, "k", "p")))
        self.fails(InvalidPoint, {"value": (1, 0)}, tree.at, 1)
        self.assertEqual(first_unlike(plain, lace), (5, 2, "k", "p"))
        self.assertEqual(first_unlike(lace, plain), (5, 2, "p", "k"))
        self.assertEqual(list(texts_compared(plain, Rested(USUAL, ("k",) * 4, (), ()))), [])
        self.assertIsNone(first_unlike(plain, Rested(USUAL, ("k",) * 4, (), ())))
        self.assertEqual(len(list(texts_compared(plain, plain))), 1)
        self.assertEqual(list(texts_compared(lace, Rested(USUAL, (), ("k", "p"), ()))), [])
        (first, step, tree), = texts_compared(lace, lace)
        self.assertEqual((first, step, tree.is_alike), (1, 2, True))
        with self.assertRaises(InvalidPoint):
            tree.at(0, 1)
        kept = Kept(USUAL, (), ("k", "p"), ())
        self.assertEqual([told[:2] for told in texts_compared(kept, Kept(USUAL, ("k",), ("k", "p", "p"), ()))],
                         [(loops, 6) for loops in range(1, 7)])
        self.assertEqual(first_unlike(kept, Kept(USUAL, ("k",), ("p", "k"), ())), None)
        self.assertEqual(first_unlike(kept, Kept(USUAL, ("k",), ("p", "k", "p", "p"), ())), (5, 4, "k", "p"))
        self.assertEqual(first_unlike(Evenly(USUAL, ("yo",), 2, "k"), Evenly(USUAL, ("yo",), 2, "k")), None)
        self.assertEqual(first_unlike(Evenly(USUAL, ("p",), 1, "k"), Evenly(USUAL, ("p",), 2, "k")), (2, 1, "k", "p"))

    def test_far(self):
        # Words that part only at a count that is far from the first one.
        one = Rested(USUAL, (), ("k",), ("p",) * 3)
        other = Kept(USUAL, ("k",) * 200, ("k",), ("p",) * 3)
        self.assertIsNone(first_unlike(one, other))
        (first, step, tree), = texts_compared(one, other)
        self.assertEqual((first, step, tree.is_alike), (203, 1, True))
        self.assertIsNone(tree.at(BIG))
        lace = Rested(USUAL, ("k",) * 3, ("ktog", "yo") + ("k",) * 4, ("k",) * 5)
        less = Rested(USUAL, ("k",) * 3, ("ktog", "yo") + ("k",) * 4, ("k",) * 4 + ("p",))
        (first, step, tree), = texts_compared(lace, less)
        self.assertEqual((first, step, tree.at(BIG)), (8, 6, (6 * BIG + 7, "k", "p")))
        self.assertEqual(first_unlike(lace, less), (8, 7, "k", "p"))

    def test_errors(self):
        text = Rested(USUAL, (), ("k",), ())
        foreign = Rested(OTHER_BOOK, (), ("k",), ())
        for call in (first_unlike, lambda one, other: list(texts_compared(one, other))):
            for value in only(no_text):
                self.fails(InvalidTexts, {"position": 0}, call, value, None)
                self.fails(InvalidTexts, {"position": 1}, call, text, value)
            self.fails(InvalidTexts, {"position": 1}, call, text, foreign)
            self.fails(InvalidTexts, {"position": 1}, call, foreign, text)

    def test_long_periods(self):
        small, great = Kept(USUAL, (), ("k",) * 24, ()), Rested(USUAL, (), ("k",) * 35, ())
        told = list(texts_compared(small, great))
        self.assertEqual([(first, step) for first, step, _ in told], [(35 * place, 840) for place in range(24)])
        self.assertIsNone(first_unlike(small, great))
        for one, other in ((Kept(USUAL, (), ("k",) * 29, ()), Rested(USUAL, (), ("k",) * 30, ())),
                           (Rested(USUAL, (), ("cdd",) * 239, ()), Rested(USUAL, (), ("ktog", "k") * 47, ()))):
            for call in (first_unlike, lambda one, other: list(texts_compared(one, other))):
                self.fails(TooMany, {"what": "period", "limit": 840}, call, one, other)
                self.fails(TooMany, {"what": "period", "limit": 840}, call, other, one)
        # A text without a period has a common one with every other.
        alone = Rested(USUAL, ("k",) * 29, (), ())
        self.assertIsNone(first_unlike(Rested(USUAL, (), ("k",) * 29, ()), alone))
        self.assertIsNone(first_unlike(Rested(USUAL, (), ("cdd",) * 240, ()), alone))
        self.fails(InvalidTexts, {"position": 1}, first_unlike, Kept(USUAL, (), ("k",) * 29, ()),
                   Rested(OTHER_BOOK, (), ("k",) * 30, ()))


if __name__ == "__main__":
    unittest.main()
