"""The files of the package keep the rules of LANGUAGE.md that a script can see.

Where a rule allows something in few places only and the package does not use it, the check may be narrower.
"""

import ast
import builtins
import os
import re
import sys
import unittest
import warnings

from support import ROOT

PACKAGE = os.path.join(ROOT, "stitchsizes")
BUILTINS = set(
    "len range enumerate zip min max sum abs sorted reversed int str bool bytes list tuple dict set frozenset"
    " isinstance ord repr any all divmod pow map iter next Exception ValueError TypeError KeyError IndexError"
    " LookupError ZeroDivisionError ArithmeticError OverflowError RuntimeError NotImplementedError AttributeError"
    " StopIteration NotImplemented property classmethod staticmethod super".split()
)
# An interpreter, or a doctest, puts its last answer there as `_`.
ALL_BUILTINS = set(dir(builtins)) - {"_"}
LIBRARY = {
    "math": {"gcd", "lcm", "isqrt", "comb", "perm", "factorial"},
    "heapq": {"heappush", "heappop", "heapify", "heapreplace", "heappushpop"},
    "itertools": set("product combinations permutations chain accumulate pairwise islice zip_longest".split()),
    "collections": {"defaultdict", "deque"},
}
STATEMENTS = (
    ast.Assign, ast.AugAssign, ast.AnnAssign, ast.If, ast.While, ast.For, ast.Return, ast.Break, ast.Continue, ast.Pass,
    ast.Raise, ast.Assert, ast.Delete, ast.Nonlocal, ast.Match, ast.With, ast.Try, ast.Expr, ast.FunctionDef,
    ast.ClassDef, ast.ImportFrom,
)
FORBIDDEN = (
    ast.AsyncFunctionDef, ast.AsyncFor, ast.AsyncWith, ast.Await, ast.Import, ast.Global, ast.Div, ast.MatMult,
    ast.GeneratorExp, ast.Set, ast.SetComp, ast.NamedExpr,
)
OPERATORS = {
    "__lt__", "__le__", "__gt__", "__ge__", "__ne__", "__neg__", "__pos__", "__invert__", "__abs__", "__bool__",
    "__contains__", "__getitem__", "__setitem__",
}
for _name in "add sub mul floordiv mod pow and or xor lshift rshift".split():
    OPERATORS |= {f"__{_name}__", f"__r{_name}__", f"__i{_name}__"}
SPECIAL = {
    "__init__", "__eq__", "__repr__", "__str__", "__len__", "__enter__", "__exit__", "__call__", "__iter__", *OPERATORS,
} - {"__rpow__"}
NOWHERE = {"register", "mro", "elements", "open", "input", "law", "version_info", "with_traceback", "add_note"}
NOT_NAMES = set(
    "attrgetter breakpoint builtins compile copyright credits delattr dir eval exec exit gc getattr globals hasattr"
    " help id importlib license locals methodcaller os quit setattr super type vars sys".split()
)
FRAMES = re.compile(r"(f_|tb_|co_|gi_|cr_|ag_)[a-z]+$")
WORDS = re.compile(
    r"\b(type|typing|typing_extensions|enum|Enum|IntEnum|StrEnum|Flag|IntFlag|Generic|Protocol|ABC|ABCMeta|namedtuple"
    r"|NamedTuple|TypedDict|TYPE_CHECKING|abstractmethod)\b|dataclass|overload|contextmanager"
)
BARRED_BEGINNINGS = (
    "_wall", "_pe_", "_dcw_", "_enum_", "_cm_", "_twin_re_", "_lay_", "_law_", "_stub_", "_sre", "_WallAttr",
)
BARRED = re.compile(r"(_cold|_tuplegetter|_outside|_record|_written_out|_member_names)[0-9_]*$")
METHODS = set(
    "append clear copy count endswith extend find get index insert isalnum isalpha isdigit islower isspace isupper"
    " items join keys ljust lower lstrip partition pop remove replace reverse rfind rjust rpartition rsplit rstrip"
    " setdefault split splitlines startswith strip update upper values zfill bit_length title capitalize swapcase"
    " casefold center expandtabs removeprefix removesuffix rindex isascii isdecimal isnumeric istitle isidentifier"
    " isprintable add discard".split()
)
NO_ATTRIBUTES = set(
    "items keys values pop update append clear extend insert remove reverse setdefault sort args encode decode hex"
    " fromhex format as_integer_ratio bit_count conjugate from_bytes is_integer to_bytes format_map mro".split()
)
BUILTIN_METHODS = {name for kind in (str, int, list, dict, set, tuple, bytes) for name in dir(kind)}
AT_ONCE = {"zip", "enumerate", "reversed", "map"}
TAKERS = {"list", "tuple", "dict", "sorted", "sum", "any", "all", "min", "max", "enumerate", "zip"}
CATCHABLE = {"KeyError", "ZeroDivisionError"}


class Checker:
    """The breaches of the rules in some files, as strings."""

    def __init__(self, sources):
        self.sources = sources
        self.trees = {}
        self.found = []
        for name, text in sources.items():
            try:
                with warnings.catch_warnings():
                    warnings.simplefilter("error")
                    self.trees[name] = ast.parse(text)
            except SyntaxError as error:
                self.told("L27", name, error.lineno, "no Python")
        every = [node for tree in self.trees.values() for node in ast.walk(tree)]
        functions = [node for node in every if isinstance(node, ast.FunctionDef)]
        self.own = {node.name for node in functions}
        self.classes = {node.name for node in every if isinstance(node, ast.ClassDef)}
        self.generators = [node.name for node in functions if yields(node)]
        self.class_methods = {node.name for node in functions if {"classmethod", "staticmethod"} & {*decorators(node)}}
        self.properties = {node.name for node in functions if "property" in decorators(node)}

    def told(self, rule, name, line, what):
        self.found.append(f"{rule} {name}:{line} {what}")

    def check(self):
        for name, text in self.sources.items():
            self.check_text(name, text)
        for name, tree in self.trees.items():
            self.check_module(name, tree)
            for node in ast.walk(tree):
                node_line = getattr(node, "lineno", 0)
                self.check_node(name, node, node_line)
            self.check_places(name, tree)
        self.check_cycles()
        self.check_methods()
        return self.found

    def check_text(self, name, text):
        lines = text.split("\n")
        if len(lines) - 1 > 399:
            self.told("L10", name, len(lines), "too many lines")
        for at, line in enumerate(lines, start=1):
            if len(line) > 120:
                self.told("L10", name, at, "a long line")
            if not all(" " <= letter <= "~" for letter in line):
                self.told("L14", name, at, "a character that is not allowed")
            if "_wall" in line or "_WallAttr" in line:
                self.told("L12", name, at, "a word that is not allowed")

    def check_module(self, name, tree):
        bound = []
        imports_over = False
        for at, node in enumerate(tree.body):
            if isinstance(node, ast.Expr) and at == 0 and isinstance(node.value, ast.Constant):
                continue
            if isinstance(node, ast.ImportFrom):
                if imports_over:
                    self.told("L2", name, node.lineno, "an import below the top")
                bound.extend(alias.asname or alias.name for alias in node.names)
                self.check_import(name, node)
                continue
            imports_over = True
            if isinstance(node, (ast.FunctionDef, ast.ClassDef)):
                bound.append(node.name)
            elif isinstance(node, ast.Assign) and len(node.targets) == 1 and isinstance(node.targets[0], ast.Name):
                bound.append(node.targets[0].id)
                if not is_plain(node.value):
                    self.told("L3", name, node.lineno, "no plain value")
            else:
                self.told("L3", name, node.lineno, "a statement at module level")
        if len(bound) != len(set(bound)):
            self.told("L15", name, 0, "a name that is bound twice")
        used = {node.id for node in ast.walk(tree) if isinstance(node, ast.Name)}
        for node in tree.body:
            if isinstance(node, ast.ImportFrom):
                for alias in node.names:
                    if alias.name not in used:
                        self.told("L2", name, node.lineno, f"an import that is not used: {alias.name}")
        if name == "__init__.py" and bound:
            self.told("L16", name, 0, "a name that is bound in __init__.py")
        self.check_locals(name, tree, set(bound))

    def check_import(self, name, node):
        if node.level or any(alias.name == "*" or alias.asname for alias in node.names):
            self.told("L2", name, node.lineno, "a form of import")
            return
        module = node.module
        if module in LIBRARY:
            if not {alias.name for alias in node.names} <= LIBRARY[module]:
                self.told("L2", name, node.lineno, "a name of the library")
            return
        file = module.removeprefix("stitchsizes.") + ".py"
        if not module.startswith("stitchsizes.") or file not in self.trees:
            self.told("L2", name, node.lineno, f"an import from {module}")
            return
        there = set()
        for other in self.trees[file].body:
            if isinstance(other, (ast.FunctionDef, ast.ClassDef)):
                there.add(other.name)
            if isinstance(other, ast.Assign):
                there.update(target.id for target in other.targets if isinstance(target, ast.Name))
        for alias in node.names:
            if alias.name not in there:
                self.told("L16", name, node.lineno, f"{alias.name} is not defined there")

    def check_locals(self, name, tree, bound):
        """No local name is that of a builtin, or of a class or an import of the file."""
        imported = {alias.name for node in tree.body if isinstance(node, ast.ImportFrom) for alias in node.names}
        barred = imported | {node.name for node in tree.body if isinstance(node, ast.ClassDef)}
        known = bound | BUILTINS
        for node in ast.walk(tree):
            if not isinstance(node, ast.FunctionDef):
                continue
            local = assigned_in(node)
            for word in sorted(local & barred):
                self.told("L15", name, node.lineno, f"{word} is a class or an import")
            setters = {part.value for part in node.decorator_list if "setter" in decorators(node)}
            for inner in ast.walk(node):
                if inner in setters:
                    continue
                if isinstance(inner, ast.Name) and inner.id not in local | known | outer_names(tree, node):
                    self.told("L8", name, inner.lineno, f"{inner.id} is not known")

    def check_node(self, name, node, line):
        if isinstance(node, FORBIDDEN):
            self.told("L6/L7/L24", name, line, type(node).__name__)
        if isinstance(node, ast.stmt) and not isinstance(node, STATEMENTS):
            self.told("L6", name, line, type(node).__name__)
        for word in names_of(node):
            self.check_name(name, node, word, line)
        if isinstance(node, ast.FunctionDef):
            self.check_function(name, node)
        if isinstance(node, ast.ClassDef):
            self.check_class(name, node)
        if isinstance(node, ast.Constant):
            self.check_constant(name, node, line)
        if isinstance(node, ast.Raise):
            self.check_raise(name, node, line)
        if isinstance(node, ast.ExceptHandler):
            self.check_handler(name, node, line)
        if isinstance(node, ast.Compare) and any(isinstance(sign, (ast.Is, ast.IsNot)) for sign in node.ops):
            sides = [node.left, *node.comparators]
            if not any(isinstance(side, ast.Constant) and side.value in (None, True, False) for side in sides):
                self.told("L20", name, line, "is")
        if isinstance(node, ast.BinOp) and isinstance(node.op, ast.Pow):
            if not isinstance(node.right, ast.Constant) or node.right.value not in range(65):
                self.told("L27", name, line, "an exponent")
        if isinstance(node, ast.Call):
            self.check_call(name, node, line)
        if isinstance(node, ast.Attribute) and isinstance(node.ctx, ast.Store) and node.attr in NO_ATTRIBUTES:
            self.told("L26", name, line, f"an attribute {node.attr}")
        if isinstance(node, ast.AugAssign) and not isinstance(node.value, ast.Constant):
            self.told("L5", name, line, "+= of something that is no literal")

    def check_name(self, name, node, word, line):
        ahead = word.startswith("__") and not (word in SPECIAL and isinstance(node, (ast.FunctionDef, ast.Attribute)))
        if ahead or not re.match(r"_?[A-Za-z][A-Za-z0-9_]*$|_$|__", word):
            self.told("L12", name, line, f"the name {word}")
        if word.startswith(BARRED_BEGINNINGS) or BARRED.match(word):
            self.told("L12", name, line, f"the name {word}")
        if word in NOWHERE or FRAMES.match(word):
            self.told("L17", name, line, f"the name {word}")
        if not isinstance(node, (ast.Attribute, ast.keyword)) and word in NOT_NAMES - {"super", "type"}:
            self.told("L17", name, line, f"the name {word}")
        is_method = isinstance(node, ast.FunctionDef)
        if isinstance(node, (ast.arg, ast.ClassDef)) or isinstance(node, ast.Name) and isinstance(node.ctx, ast.Store):
            if word in ALL_BUILTINS:
                self.told("L15", name, line, f"{word} is a builtin")
        if is_method and (word in BUILTINS or word in ("map", "iter", "next")):
            self.told("L8", name, line, f"{word} is a builtin")

    def check_function(self, name, node):
        line = node.lineno
        if node.end_lineno - line + 1 > 40:
            self.told("L10", name, line, f"{node.name} is too long")
        given = decorators(node)
        if len(given) > 1 or not set(given) <= {"property", "setter", "classmethod", "staticmethod"}:
            self.told("L4", name, line, "a decorator")
        for default in [*node.args.defaults, *node.args.kw_defaults]:
            if default is not None and not isinstance(default, (ast.Constant, ast.Tuple, ast.UnaryOp)):
                self.told("L4", name, line, "a default value")
        if node.name.startswith("__"):
            self.check_special(name, node)
        if yields(node):
            if given or node.name in METHODS:
                self.told("L23", name, line, "a generator")
            # The interface lists a generator of the same name for two classes, so only other functions are meant.
            if [other for tree in self.trees.values() for other in ast.walk(tree)
                    if isinstance(other, ast.FunctionDef) and other.name == node.name and not yields(other)]:
                self.told("L23", name, line, "another function has the name of a generator")
        if "property" in given and (node.name in BUILTIN_METHODS or len(node.args.args) != 1):
            self.told("L5", name, line, "a property")

    def check_special(self, name, node):
        line = node.lineno
        if node.name not in SPECIAL:
            self.told("L5", name, line, node.name)
        other = node.args.vararg or node.args.kwonlyargs or node.args.defaults or decorators(node)
        if node.name != "__init__" and other:
            self.told("L5", name, line, "parameters of an operator")
        answers = [inner.value for inner in ast.walk(node) if isinstance(inner, ast.Return)]
        if node.name == "__init__" and answers:
            self.told("L28", name, line, "__init__ returns")
        if node.name in ("__repr__", "__str__", "__len__") and not isinstance(node.body[-1], ast.Return):
            self.told("L28", name, line, "no return at the end")
        if node.name == "__len__" and not all(called(answer) == "len" for answer in answers):
            self.told("L28", name, line, "what __len__ returns")
        if node.name in ("__repr__", "__str__"):
            if not all(isinstance(answer, ast.JoinedStr) or called(answer) in ("str", "repr") for answer in answers):
                self.told("L28", name, line, f"what {node.name} returns")
        if node.name in ("__eq__", "__repr__", "__str__", "__len__", "__iter__"):
            for inner in ast.walk(node):
                if isinstance(inner, ast.Assign) and not isinstance(inner.value, (ast.List, ast.ListComp, ast.Dict)):
                    self.told("L28", name, line, f"{node.name} assigns")

    def check_class(self, name, node):
        methods = methods_of(node)
        given = {part.name for part in methods if "property" in decorators(part)}
        for part in node.body:
            if isinstance(part, ast.FunctionDef) and "setter" in decorators(part):
                if part.name not in given or len(part.args.args) != 2:
                    self.told("L5", name, part.lineno, "a setter")
        if len(methods) != len({part.name for part in methods}):
            self.told("L18", name, node.lineno, "a method that is defined twice")
        for part in node.body:
            docstring = isinstance(part, ast.Expr) and isinstance(part.value, ast.Constant)
            if not docstring and not isinstance(part, (ast.FunctionDef, ast.Assign)):
                self.told("L5", name, part.lineno, "the body of a class")
            if isinstance(part, ast.Assign) and not is_plain(part.value):
                self.told("L5", name, part.lineno, "a class value")
        if node.decorator_list or node.keywords or len(node.bases) > 1:
            self.told("L5", name, node.lineno, "a class")
        attributes = [inner for inner in ast.walk(node) if isinstance(inner, ast.Attribute)]
        stored = {inner.attr for inner in attributes if isinstance(inner.ctx, ast.Store)}
        for word in sorted(stored & {part.name for part in methods}):
            self.told("L18", name, node.lineno, f"{word} is a method and an attribute")
        if "__getitem__" in {part.name for part in methods} and "__iter__" not in {part.name for part in methods}:
            self.told("L5", name, node.lineno, "__getitem__ without __iter__")

    def check_constant(self, name, node, line):
        if isinstance(node.value, (float, complex, bytes)) or node.value is Ellipsis:
            self.told("L7", name, line, "a value that is not allowed")
        if isinstance(node.value, str) and not is_docstring(self.trees[name], node):
            if chr(37) in node.value or WORDS.search(node.value):
                self.told("L17/L27", name, line, "a string that is not allowed")
            if node.value.endswith(("._", ".__")) or node.value[:2] == "__":
                self.told("L27", name, line, "a string that is not allowed")

    def check_raise(self, name, node, line):
        if node.exc is not None and not (isinstance(node.exc, ast.Call) and isinstance(node.exc.func, ast.Name)):
            self.told("L19", name, line, "an error that is not created on the spot")

    def check_handler(self, name, node, line):
        kinds = node.type.elts if isinstance(node.type, ast.Tuple) else [node.type]
        for kind in kinds:
            if not isinstance(kind, ast.Name) or kind.id not in CATCHABLE | self.classes:
                self.told("L19", name, line, "an error that is not caught")

    def check_call(self, name, node, line):
        word = called(node)
        if word in ("chr", "print", "open", "getattr", "setattr", "hasattr", "frozenset", "bytes"):
            self.told("L8", name, line, word)
        if word in ("any", "all", "min", "max", "sum", "sorted", "len", "isinstance") and node.keywords:
            if not {keyword.arg for keyword in node.keywords} <= {"key", "reverse", "default", "start"}:
                self.told("L22", name, line, f"keywords of {word}")
        if word == "isinstance":
            kinds = node.args[1].elts if isinstance(node.args[1], ast.Tuple) else [node.args[1]]
            known = self.classes | {"int", "str", "bool", "list", "tuple", "dict"}
            for kind in kinds:
                if not isinstance(kind, ast.Name) or kind.id not in known:
                    self.told("L22", name, line, "isinstance")
        if isinstance(node.func, ast.Attribute):
            if node.func.attr not in METHODS | self.own:
                self.told("L25", name, line, f"the method {node.func.attr}")
            if isinstance(node.func.value, ast.Constant) and node.func.attr != "join":
                self.told("L25", name, line, "a method of a literal")
            if node.func.attr in METHODS and node.keywords:
                self.told("L25", name, line, "keywords of a method")
            off_class = isinstance(node.func.value, ast.Name) and node.func.value.id in self.classes
            if off_class and node.func.attr not in self.class_methods:
                self.told("L5", name, line, "a method that is read off a class")
        starred = [at for at, given in enumerate(node.args) if isinstance(given, ast.Starred)]
        if len(starred) > 1:
            self.told("L7", name, line, "several stars in a call")
        if starred and not isinstance(node.args[starred[0]].value, (ast.Name, ast.Attribute, ast.List, ast.Tuple)):
            self.told("L7", name, line, "what stands behind a star")

    def check_places(self, name, tree):
        """What is iterated at once, and classes that are not passed on."""
        parents = {}
        for node in ast.walk(tree):
            for child in ast.iter_child_nodes(node):
                parents[child] = node
        for node in ast.walk(tree):
            above = parents.get(node)
            word = called(node)
            views = isinstance(node, ast.Call) and getattr(node.func, "attr", "") in ("items", "keys", "values")
            if word in AT_ONCE or word == "range" or views:
                looped = isinstance(above, (ast.For, ast.comprehension)) and above.iter is node
                if not looped and called(above) not in TAKERS:
                    self.told("L23", name, node.lineno, f"{word} is not iterated at once")
            if isinstance(node, ast.Name) and isinstance(node.ctx, ast.Load):
                if node.id in self.classes and not class_may_stand(node, above, parents):
                    self.told("L18", name, node.lineno, f"the class {node.id} as a value")
                if node.id in BUILTINS and node.id.islower() and not builtin_may_stand(node, above, parents):
                    self.told("L22", name, node.lineno, f"{node.id} as a value")
            if isinstance(node, ast.Attribute) and node.attr in self.generators and isinstance(above, ast.Call):
                further = parents.get(above)
                if not isinstance(further, (ast.For, ast.comprehension)) and called(further) not in TAKERS:
                    self.told("L23", name, node.lineno, "a generator that is not iterated at once")

    def check_cycles(self):
        before = {name: {node.module.removeprefix("stitchsizes.") + ".py" for node in tree.body
                         if isinstance(node, ast.ImportFrom) and node.module not in LIBRARY}
                  for name, tree in self.trees.items()}
        while before:
            free = [name for name, needed in before.items() if not needed & set(before)]
            if not free:
                self.told("L16", min(before), 0, "files that import from each other")
                return
            for name in free:
                del before[name]

    def without_setters(self):
        """The names of the properties that have no setter in one class or more."""
        found = set()
        for tree in self.trees.values():
            for node in ast.walk(tree):
                if isinstance(node, ast.ClassDef):
                    functions = [part for part in node.body if isinstance(part, ast.FunctionDef)]
                    given = {part.name for part in functions if "setter" in decorators(part)}
                    found |= {part.name for part in functions if "property" in decorators(part)} - given
        return found

    def check_methods(self):
        """A property that is assigned anywhere has a setter wherever it stands. A property has no name of a method, and an attribute that is read is assigned somewhere."""
        plain, stored, read = set(), set(), []
        fixed = self.without_setters()
        for name, tree in self.trees.items():
            for node in ast.walk(tree):
                if isinstance(node, ast.ClassDef):
                    plain.update(part.name for part in methods_of(node) if "property" not in decorators(part))
                    stored.update(part.targets[0].id for part in node.body if isinstance(part, ast.Assign))
                if isinstance(node, ast.Attribute) and isinstance(node.ctx, ast.Store):
                    stored.add(node.attr)
                    if node.attr in fixed:
                        self.told("L5", name, node.lineno, f"a property that is given has a setter: {node.attr}")
                elif isinstance(node, ast.Attribute):
                    read.append((name, node))
        for word in sorted(self.properties & plain):
            self.told("L5", "", 0, f"{word} is a property and a method")
        for name, node in read:
            if node.attr not in {"setter"} | stored | plain | self.properties | METHODS:
                self.told("L18", name, node.lineno, f"the attribute {node.attr} is not assigned")


def called(node):
    """The name of the function that a node calls."""
    return node.func.id if isinstance(node, ast.Call) and isinstance(node.func, ast.Name) else None


def yields(function):
    return any(isinstance(node, (ast.Yield, ast.YieldFrom)) for node in ast.walk(function))


def decorators(function):
    """The decorators: names, "setter" for that of a property of the same name, and "" for anything else."""
    found = []
    for node in function.decorator_list:
        setter = isinstance(node, ast.Attribute) and node.attr == "setter" and isinstance(node.value, ast.Name)
        if setter and node.value.id == function.name:
            found.append("setter")
        else:
            found.append(node.id if isinstance(node, ast.Name) else "")
    return found


def methods_of(node):
    """The methods of a class by name; a property and its setter are one."""
    methods = [part for part in node.body if isinstance(part, ast.FunctionDef)]
    return [part for part in methods if "setter" not in decorators(part)]


def is_plain(node):
    if isinstance(node, ast.Constant):
        return True
    if isinstance(node, (ast.Tuple, ast.List)):
        return all(isinstance(part, (ast.Constant, ast.Tuple)) and is_plain(part) for part in node.elts)
    if isinstance(node, ast.Dict):
        parts = [*node.keys, *node.values]
        return all(isinstance(part, (ast.Constant, ast.Tuple)) and is_plain(part) for part in parts)
    return isinstance(node, ast.UnaryOp) and isinstance(node.operand, ast.Constant)


def is_docstring(tree, constant):
    for node in ast.walk(tree):
        if isinstance(node, (ast.Module, ast.ClassDef, ast.FunctionDef)) and node.body:
            first = node.body[0]
            if isinstance(first, ast.Expr) and first.value is constant:
                return True
    return False


def names_of(node):
    """The names that a node gives or uses."""
    if isinstance(node, ast.Name):
        return [node.id]
    if isinstance(node, ast.Attribute):
        return [node.attr]
    if isinstance(node, (ast.arg, ast.keyword)):
        return [node.arg] if node.arg else []
    if isinstance(node, (ast.FunctionDef, ast.ClassDef)):
        return [node.name]
    if isinstance(node, ast.alias):
        return [node.asname or node.name]
    return []


def assigned_in(function):
    """The parameters and local variables of a function, and of what stands in it."""
    local = set()
    for node in ast.walk(function):
        if isinstance(node, ast.arg):
            local.add(node.arg)
        if isinstance(node, ast.Name) and isinstance(node.ctx, ast.Store):
            local.add(node.id)
        if isinstance(node, ast.FunctionDef) and node is not function:
            local.add(node.name)
        if isinstance(node, ast.ExceptHandler) and node.name:
            local.add(node.name)
    return local


def outer_names(tree, function):
    """The local names of the functions around a function."""
    around = set()
    for node in ast.walk(tree):
        if isinstance(node, ast.FunctionDef) and node is not function and function in ast.walk(node):
            around |= assigned_in(node)
    return around


def class_may_stand(node, above, parents):
    if isinstance(above, ast.Call):
        return above.func is node or called(above) == "isinstance" and above.args[1] is node
    if isinstance(above, ast.Tuple):
        return called(parents.get(above)) == "isinstance" or isinstance(parents.get(above), ast.ExceptHandler)
    return isinstance(above, (ast.ClassDef, ast.ExceptHandler, ast.Raise)) or isinstance(above, ast.Attribute)


def builtin_may_stand(node, above, parents):
    if isinstance(above, ast.Call):
        return above.func is node or called(above) in ("isinstance", "map")
    if isinstance(above, ast.Tuple):
        return called(parents.get(above)) == "isinstance"
    return isinstance(above, (ast.FunctionDef, ast.keyword))


def breaches(text, name="sample.py", **others):
    return Checker({name: text, **{f"{word}.py": other for word, other in others.items()}}).check()


class TestPackage(unittest.TestCase):
    def test_rules(self):
        sources = {}
        for name in sorted(os.listdir(PACKAGE)):
            if name != "__pycache__":
                with open(os.path.join(PACKAGE, name), encoding="utf-8") as file:
                    sources[name] = file.read()
        self.assertGreater(len(sources), 9)
        self.assertEqual(Checker(sources).check(), [])

    def test_files(self):
        self.assertNotIn("stitchsizes", sys.stdlib_module_names)
        names = [name for name in os.listdir(PACKAGE) if name != "__pycache__"]
        self.assertIn("__init__.py", names)
        self.assertLessEqual(len(names), 100)
        for name in names:
            self.assertTrue(os.path.isfile(os.path.join(PACKAGE, name)), name)
            self.assertRegex(name, r"^(__init__|[a-z][a-z0-9_]*)\.py$")
            stem = name.removesuffix(".py")
            self.assertFalse(stem in NOWHERE or stem in dir(builtins) or stem.startswith(("law_", "test")), name)
            self.assertNotIn(stem, ("heapq", "math", "itertools", "site", "conftest", "sitecustomize", "usercustomize"))


class TestChecker(unittest.TestCase):
    """The check finds breaches: each of these texts has one."""

    GOOD = (
        '"""Text."""\n\nfrom math import gcd\n\n_LIMIT = 3\n\n\n'
        "def half(n):\n    \"\"\"Half.\"\"\"\n    return gcd(n, _LIMIT) // 2\n\n\n"
        "class Box:\n    def __init__(self, n):\n        self._n = n\n\n"
        "    @property\n    def many(self):\n        return self._n\n\n"
        "    def __len__(self):\n        return len(self._n)\n"
    )
    BAD = (
        ("L6", "import math\n"), ("L2", "from math import sqrt\n"), ("L2", "from os import path\n"),
        ("L2", "from stitchsizes.none import a\n"), ("L2", "from math import gcd\n"), ("L2", "from .a import b\n"),
        ("L2", "def a():\n    return 1\n\n\nfrom math import gcd\n\n\ndef b():\n    return gcd(1, 2)\n"),
        ("L3", "print(1)\n"), ("L3", "a = len('b')\n"), ("L3", "a, b = 1, 2\n"), ("L3", "for a in (1, 2):\n    pass\n"),
        ("L4", "@some\ndef a():\n    return 1\n"), ("L4", "def a(b={}):\n    return b\n"),
        ("L5", "class A:\n    def __hash__(self):\n        return 1\n"), ("L5", "class A:\n    print(1)\n"),
        ("L5", "class A:\n    @property\n    def title(self):\n        return 1\n"),
        ("L5", "class A:\n    @property\n    def a(self):\n        return 1\n\n\n"
               "class B:\n    def a(self):\n        return 1\n"),
        ("L5", "class A:\n    @property\n    def a(self):\n        return 1\n\n\n"
               "class B:\n    def __init__(self):\n        self.a = 1\n"),
        ("L5", "class A:\n    @property\n    def a(self):\n        return 1\n\n\ndef b(c):\n    c.a = 1\n"),
        ("L5", "class A:\n    @property\n    def a(self):\n        return 1\n\n    @a.setter\n"
               "    def a(self, value):\n        self.b = value\n\n\n"
               "class C:\n    @property\n    def a(self):\n        return 1\n\n\ndef b(c):\n    c.a = 1\n"),
        ("L5", "class A:\n    @property\n    def a(self):\n        return 1\n\n    @a.setter\n"
               "    def a(self, value, more):\n        self.b = value\n"),
        ("L5", "class A:\n    @b.setter\n    def b(self, value):\n        self.c = value\n"),
        ("L4", "class A:\n    @b.setter\n    def c(self, value):\n        self.d = value\n"),
        ("L5", "class A:\n    def b(self):\n        return 1\n\n\ndef c(a):\n    return A.b(a)\n"),
        ("L5", "class A:\n    def __getitem__(self, at):\n        return at\n"),
        ("L5", "def a(b, c):\n    b += c\n    return b\n"),
        ("L6", "def a():\n    global b\n    b = 1\n"), ("L6", "async def a():\n    return 1\n"),
        ("L7", "def a():\n    return 1.5\n"),
        ("L6/L7", "def a(b):\n    return b / 2\n"),
        ("L7", "def a():\n    return b'x'\n"),
        ("L6/L7", "def a(b):\n    return any(c for c in b)\n"), ("L6/L7", "def a(b):\n    return {c for c in b}\n"),
        ("L7", "def a(b):\n    return max(*b, *b)\n"), ("L7", "def a(b):\n    return max(*sorted(b))\n"),
        ("L8", "def a(b):\n    return filter(None, b)\n"), ("L8", "def a():\n    return chr(3)\n"),
        ("L8", "def a():\n    print(1)\n"), ("L8", "def len(a):\n    return a\n"),
        ("L10", "def a():\n" + "    b = 1\n" * 40), ("L10", "a = 1  # " + "b" * 120 + "\n"), ("L10", "\n" * 400),
        ("L12", "def __a():\n    return 1\n"), ("L12", "_wall = 1\n"), ("L12", "_enum_a = 1\n"), ("L12", "_cold = 1\n"),
        ("L14", "# \t\n"), ("L14", "# \u00e9\n"),
        ("L15", "a = 1\na = 2\n"),
        ("L15", "def a(id):\n    return 1\n"),
        ("L15", "def a(b):\n    min = b\n    return min\n"),
        ("L15", "class A:\n    pass\n\n\ndef b(A):\n    return A\n"),
        ("L17", "def a(b):\n    return b.elements\n"),
        ("L17", "def a(os):\n    return os\n"),
        ("L17", "def a():\n    return 'type'\n"),
        ("L17", "def a(b):\n    return b.f_code\n"),
        ("L18", "class A:\n    \"\"\"A.\"\"\"\n\n\ndef a():\n    return [A]\n"),
        ("L18", "def a(b):\n    return b.nowhere\n"),
        ("L18", "class A:\n    def b(self):\n        self.b = 1\n"),
        ("L18", "class A:\n    def b(self):\n        return 1\n\n    def b(self):\n        return 2\n"),
        ("L19", "def a(b):\n    raise b\n"),
        ("L19", "def a():\n    try:\n        pass\n    except Exception:\n        pass\n"),
        ("L19", "def a():\n    try:\n        pass\n    except:\n        pass\n"),
        ("L20", "def a(b, c):\n    return b is c\n"),
        ("L22", "def a(b):\n    return isinstance(b, object)\n"), ("L22", "def a(b):\n    c = len\n    return c(b)\n"),
        ("L23", "def a(b):\n    c = zip(b, b)\n    return 1\n"), ("L23", "def a(b):\n    return b.items()\n"),
        ("L23", "class A:\n    def b(self):\n        yield 1\n\n\nclass C:\n    def b(self):\n        return 1\n"),
        ("L25", "def a(b):\n    return b.format_map(1)\n"), ("L25", "def a(b):\n    b.sort()\n"),
        ("L25", "def a(b):\n    return b.split(sep=1)\n"),
        ("L26", "class A:\n    def __init__(self):\n        self.args = 1\n"),
        ("L27", "def a(b):\n    return 2 ** b\n"), ("L17/L27", "def a():\n    return 'a" + chr(37) + "'\n"),
        ("L27", "def a():\n    return '__b__'\n"), ("L27", "def a(b):\n    return 1if b else 2\n"),
        ("L28", "class A:\n    def __init__(self):\n        return None\n"),
        ("L28", "class A:\n    def __len__(self):\n        return 1 + 1\n"),
        ("L28", "class A:\n    def __repr__(self):\n        return 'a' + 'b'\n"),
        ("L28", "class A:\n    def __eq__(self, other):\n        a = other\n        return a\n"),
        ("L28", "class A:\n    def __str__(self):\n        raise ValueError()\n"),
    )

    def test_good(self):
        self.assertEqual(breaches(self.GOOD), [])

    def test_bad(self):
        for rule, text in self.BAD:
            with self.subTest(text=text):
                self.assertTrue([told for told in breaches(text) if told.startswith(rule)], breaches(text))

    def test_setters(self):
        """A name that is assigned is a property only where it has its setter, in whatever file it stands."""
        errors = "class Bad(ValueError):\n    def __init__(self, name):\n        self.name = name\n"
        fixed = "class Kind:\n    @property\n    def name(self):\n        return 1\n"
        setter = "\n    @name.setter\n    def name(self, value):\n        raise AttributeError(value)\n"
        found = breaches(fixed, errors=errors)
        self.assertEqual([told for told in found if "has a setter: name" in told], found)
        self.assertEqual(found, ["L5 errors.py:3 a property that is given has a setter: name"])
        self.assertEqual(breaches(fixed + setter, errors=errors), [])
        self.assertEqual(len(breaches(fixed + setter, errors=errors, others=fixed.replace("Kind", "Box"))), 1)
        self.assertEqual(breaches(fixed, errors=errors.replace("self.name", "self.value")), [])

    def test_imports_among_files(self):
        one = "from stitchsizes.other import b\n\n\ndef a():\n    return b()\n"
        self.assertEqual(breaches(one, other="def b():\n    return 1\n"), [])
        self.assertTrue(breaches(one, other="def c():\n    return 1\n")[0].startswith("L16"))
        back = "from stitchsizes.sample import a\n\n\ndef b():\n    return a()\n"
        self.assertTrue([told for told in breaches(one, other=back) if told.startswith("L16")])
        self.assertTrue(breaches("a = 1\n", name="__init__.py")[0].startswith("L16"))


if __name__ == "__main__":
    unittest.main()
