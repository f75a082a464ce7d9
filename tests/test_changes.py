"""What properties, operators, __eq__, __len__, __repr__ and __str__ come to, by the names of what they call: they change
nothing (L5 Properties, L5 Operators and L28 of LANGUAGE.md)."""

import ast
import os
import unittest

from support import ROOT

PACKAGE = os.path.join(ROOT, "stitchsizes")
SHOWN = {"__eq__", "__len__", "__repr__", "__str__"}
OPERATORS = {
    "__lt__", "__le__", "__gt__", "__ge__", "__ne__", "__neg__", "__pos__", "__invert__", "__abs__", "__bool__",
    "__contains__", "__getitem__",
}
for _name in "add sub mul floordiv mod pow and or xor lshift rshift".split():
    OPERATORS |= {f"__{_name}__", f"__r{_name}__"}
MODIFYING = set(
    "append clear extend insert pop remove reverse setdefault update add discard sort appendleft popleft extendleft"
    " rotate popitem".split()
)
MAKERS = {"list", "dict", "set", "sorted"}
NEW = (ast.List, ast.ListComp, ast.Dict, ast.DictComp, ast.Set, ast.SetComp)


class Reader:
    """The functions of some files by name, and what each of them changes and calls."""

    def __init__(self, sources):
        self.functions = {}
        self.methods = {}
        self.getters = {}
        self.setters = set()
        self.classes = {}
        self.roots = []
        for file, text in sorted(sources.items()):
            tree = ast.parse(text)
            for node in ast.walk(tree):
                if isinstance(node, ast.ClassDef):
                    self.read_class(file, node)
            methods = [part for table in self.methods.values() for _, part in table]
            for node in ast.walk(tree):
                if isinstance(node, ast.FunctionDef) and node not in methods:
                    self.functions.setdefault(node.name, []).append((file, node))

    def read_class(self, file, node):
        self.classes[node.name] = (file, node)
        for part in node.body:
            if not isinstance(part, ast.FunctionDef):
                continue
            given = [told.id if isinstance(told, ast.Name) else told.attr for told in part.decorator_list]
            if "setter" in given:
                self.setters.add(part.name)
            elif "property" in given:
                self.getters.setdefault(part.name, []).append((file, part))
            self.methods.setdefault(part.name, []).append((file, part))
            if "property" in given or part.name in OPERATORS | SHOWN:
                self.roots.append((file, node.name, part))

    def breaches(self):
        found = []
        for file, name, root in self.roots:
            for told in self.changes_from(file, root):
                found.append(f"L5 {file}:{root.lineno} {name}.{root.name} comes to {told}")
        return found

    def changes_from(self, file, root):
        """What a function, and all that it calls, changes."""
        waiting = [(file, root)]
        seen = [root]
        found = []
        while waiting:
            there, function = waiting.pop()
            found.extend(f"{there}:{line} {what}" for line, what in self.changes_of(function))
            for target in self.called_by(function):
                if target[1] not in seen:
                    seen.append(target[1])
                    waiting.append(target)
        return sorted(set(found))

    def called_by(self, function):
        """The functions that a function calls, or reads as values, by their names; whatever an object is, a method of
        any class with the name of the one that is called counts."""
        found = []
        local = names_given(function)
        for node in walked(function):
            if isinstance(node, ast.Call) and isinstance(node.func, ast.Name):
                for name in self.classes if node.func.id == "cls" else [node.func.id]:
                    found.extend(self.init_of(name))
            if isinstance(node, ast.Name) and isinstance(node.ctx, ast.Load) and node.id not in local:
                found.extend(self.functions.get(node.id, []))
            if isinstance(node, ast.Attribute) and isinstance(node.ctx, ast.Load):
                found.extend(self.methods.get(node.attr, []))
        return found

    def init_of(self, name):
        """The constructor of a class, its own or that of the first base class that has one."""
        while name in self.classes:
            file, node = self.classes[name]
            for part in node.body:
                if isinstance(part, ast.FunctionDef) and part.name == "__init__":
                    return [(file, part)]
            name = node.bases[0].id if node.bases and isinstance(node.bases[0], ast.Name) else None
        return []

    def changes_of(self, function):
        """The lines of a function that change something, or call what it is handed or holds."""
        created = created_in(function)
        objects = self.objects_of(function)
        local = names_given(function)
        for node in walked(function):
            if isinstance(node, (ast.Global, ast.Nonlocal)):
                yield node.lineno, "a name of another function"
            if isinstance(node, ast.Attribute) and not isinstance(node.ctx, ast.Load):
                own = function.name == "__init__" and is_name(node.value, function.args.args[0].arg)
                if node.attr in self.setters:
                    yield node.lineno, f"the setter of {node.attr}"
                elif not own and not (isinstance(node.value, ast.Name) and node.value.id in objects):
                    yield node.lineno, f"the attribute {node.attr}"
            if isinstance(node, ast.Subscript) and not isinstance(node.ctx, ast.Load):
                if not (isinstance(node.value, ast.Name) and node.value.id in created):
                    yield node.lineno, "an item"
            if isinstance(node, ast.Call):
                yield from self.changes_of_call(node, created, local)

    def changes_of_call(self, node, created, local):
        if isinstance(node.func, ast.Name):
            if node.func.id in local and node.func.id != "cls":
                yield node.lineno, f"a call of {node.func.id}, which it is handed"
        elif isinstance(node.func, ast.Attribute):
            word = node.func.attr
            on_created = isinstance(node.func.value, ast.Name) and node.func.value.id in created
            if word in MODIFYING and not on_created:
                yield node.lineno, f"{word} of what it did not create"
            if word not in self.methods and word not in BUILTIN_METHODS:
                yield node.lineno, f"a call of {word}, which something holds"
        else:
            yield node.lineno, "a call of what it is handed"

    def objects_of(self, function):
        """The local names that are only ever given new objects of own classes."""
        return only_given(function, lambda value: isinstance(value, ast.Call) and isinstance(value.func, ast.Name)
                          and value.func.id in {*self.classes, "cls"})


BUILTIN_METHODS = {name for kind in (str, int, list, dict, set, tuple) for name in dir(kind)}


def walked(function):
    """The nodes of the rows of a function, not of its decorators and annotations."""
    for statement in function.body:
        yield from ast.walk(statement)


def is_name(node, name):
    return isinstance(node, ast.Name) and node.id == name


def parameters_of(function):
    told = function.args
    return {arg.arg for arg in [*told.posonlyargs, *told.args, *told.kwonlyargs, told.vararg, told.kwarg] if arg}


def names_given(function):
    """The parameters and local variables."""
    given = parameters_of(function)
    for node in walked(function):
        if isinstance(node, ast.Name) and isinstance(node.ctx, ast.Store):
            given.add(node.id)
    return given


def only_given(function, test):
    """The local names each assignment of which is one of a single value for which the test holds."""
    good, bad = set(), parameters_of(function)
    plain = set()
    for node in walked(function):
        if isinstance(node, ast.Assign) and len(node.targets) == 1 and isinstance(node.targets[0], ast.Name):
            plain.add(node.targets[0])
            (good if test(node.value) else bad).add(node.targets[0].id)
    for node in walked(function):
        if isinstance(node, ast.Name) and isinstance(node.ctx, ast.Store) and node not in plain:
            bad.add(node.id)
    return good - bad


def created_in(function):
    """The local names that are only ever given new lists, dicts and sets."""
    return only_given(function, is_new)


def is_new(value):
    if isinstance(value, NEW):
        return True
    if isinstance(value, ast.Call):
        if isinstance(value.func, ast.Name):
            return value.func.id in MAKERS
        return isinstance(value.func, ast.Attribute) and value.func.attr == "copy"
    if isinstance(value, ast.Subscript):
        return isinstance(value.slice, ast.Slice)
    return isinstance(value, ast.BinOp) and isinstance(value.left, ast.List)


def breaches(**sources):
    return Reader({f"{name}.py": text for name, text in sources.items()}).breaches()


class TestPackage(unittest.TestCase):
    def test_nothing_changes(self):
        sources = {}
        for name in sorted(os.listdir(PACKAGE)):
            if name.endswith(".py"):
                with open(os.path.join(PACKAGE, name), encoding="utf-8") as file:
                    sources[name] = file.read()
        reader = Reader(sources)
        self.assertGreater(len(reader.roots), 100)
        self.assertLess({"name", "section", "loops", "outcome"}, reader.setters | {"none"})
        self.assertEqual(reader.breaches(), [])


def box(*rows, root="@property\n    def told(self):"):
    lines = "".join(f"        {row}\n" for row in rows)
    return f"class Box:\n    def __init__(self, n):\n        self._n = n\n\n    {root}\n{lines}"


SETTER = (
    "\n\nclass Kind:\n    @property\n    def name(self):\n        return 1\n\n    @name.setter\n"
    "    def name(self, value):\n        raise AttributeError()\n"
)
ERROR = "\n\nclass Bad(ValueError):\n    def __init__(self, name):\n        self.name = name\n"
ROOTS = (
    "@property\n    def told(self):", "def __eq__(self, other):", "def __len__(self):", "def __repr__(self):",
    "def __str__(self):", "def __add__(self, other):", "def __contains__(self, x):", "def __bool__(self):",
    "def __lt__(self, other):", "def __neg__(self):", "def __rmul__(self, other):",
)


class TestReader(unittest.TestCase):
    """The check finds what comes to a change, and lets the rest stand."""

    def test_setters_of_errors(self):
        called = "\n\ndef weight(n):\n    if n < 0:\n        raise Bad(n)\n    return n\n"
        for root in ROOTS:
            text = box("return weight(self._n)", root=root) + called
            self.assertEqual(len(breaches(boxes=text, kinds=SETTER, errors=ERROR)), 1)
            # Without the setter, or with an attribute of another name, the error only gives itself an attribute.
            self.assertEqual(breaches(boxes=text, errors=ERROR), [])
            self.assertEqual(breaches(boxes=text, kinds=SETTER, errors=ERROR.replace("self.name", "self.worth")), [])

    def test_names_of_other_files(self):
        asking = box("return self._n.made(3)")
        made = "class Other:\n    def made(self, n):\n        return {}\n\n\ndef low(n):\n    raise Bad(n)\n"
        self.assertEqual(len(breaches(a=asking, b=made.format("low(n)"), errors=ERROR, kinds=SETTER)), 1)
        self.assertEqual(breaches(a=asking, b=made.format("n"), errors=ERROR, kinds=SETTER), [])
        reading = box("return self._n.low")
        getter = "class Other:\n    @property\n    def low(self):\n        raise Bad(1)\n"
        self.assertEqual(len(breaches(a=reading, b=getter, errors=ERROR, kinds=SETTER)), 2)
        made = "class Other:\n    def __init__(self, n):\n        raise Bad(n)\n\n\nclass Third(Other):\n    pass\n"
        self.assertEqual(len(breaches(a=box("return Third(self._n)"), b=made, errors=ERROR, kinds=SETTER)), 1)
        self.assertEqual(len(breaches(a=box("return sorted(self._n, key=low)"), b="def low(n):\n    raise Bad(n)\n",
                                      errors=ERROR, kinds=SETTER)), 1)

    def test_changes(self):
        for rows in (
            ["self._n = 3", "return 3"], ["self._n += 1", "return 3"], ["self._n[0] = 3", "return 3"],
            ["del self._n[0]", "return 3"], ["self._n.append(3)", "return 3"], ["xs = self._n", "xs.pop()", "return 3"],
            ["xs = [1]", "xs = self._n", "xs.append(2)", "return 3"], ["for xs in self._n:", "    xs.clear()", "return 3"],
            ["xs, ys = [1], [2]", "xs.append(1)", "return 3"], ["twin = self._n", "twin.m = 3", "return 3"],
            ["f = self._n", "return f()"], ["return self._n[0]()"], ["return self._n()"],
            ["return low(self._n)"], ["return self.high()"],
        ):
            text = box(*rows) + "\n    def high(self):\n        self._n = 4\n        return 4\n"
            text += "\n\ndef low(rows):\n    rows.append(3)\n    return rows\n"
            self.assertEqual(len(breaches(a=text)), 1, rows)

    def test_what_may_stand(self):
        for rows in (
            ["return self._n"], ["xs = [1]", "xs.append(2)", "xs[0] = 3", "return xs"],
            ["xs = list(self._n)", "xs.pop()", "return xs"], ["xs = self._n[:]", "del xs[0]", "return xs"],
            ["table = {}", "table[1] = 2", "return table"], ["twin = Box(1)", "twin._n = 2", "return twin"],
            ["n = 1", "n += 1", "return n"], ["return low(self._n)"], ["xs = [0] * 3", "xs[1] = 2", "return xs"],
            ["return ', '.join([str(n) for n in self._n])"],
        ):
            text = box(*rows) + "\n\ndef low(rows):\n    return len(rows)\n"
            self.assertEqual(breaches(a=text), [], rows)

    def test_what_is_no_root(self):
        for root in ("def told(self):", "def __init__(self, n):", "def __enter__(self):", "def __iadd__(self, other):"):
            self.assertEqual(breaches(a=box("self._n = 3", "return 3", root=root)), [])


if __name__ == "__main__":
    unittest.main()
