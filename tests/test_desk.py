"""Desks: [95], and the interface of desk.py."""

import unittest

from knitter import drawn_pattern
from support import Case, FAR, OTHER_BOOK, USUAL, drawn, no_book, only, values
from stitchsizes.alike import Beside
from stitchsizes.desk import Desk, tried
from stitchsizes.errors import (
    InvalidBooks, InvalidCommand, InvalidLine, LimitError, MissingError, NothingToUndo, StateError, StitchError, TooMany,
    UnknownPattern,
)
from stitchsizes.kinds import Book
from stitchsizes.patterns import Pattern
from stitchsizes.pieces import first_trouble
from stitchsizes.texts import pattern_text, read_pattern
from stitchsizes.working import outcome_at

ERRORS = (StitchError, MissingError, StateError, LimitError)
HAT = "round\ncast on 4 n + 20\nuntil 0 at most 8\n- ktog, (k) to last 2, ssk\n- (k) to last 0\n"
ROWS = "round\ncast on n + 3\nrepeat 2\n- (k) to last 0\n"
HEAVY = "round\ncast on 9 n + 9\nrepeat 1\n- (k19) to last 0\nrepeat 1\n- (k19) to last 0\n"


def desk_with(**texts):
    desk = Desk(USUAL)
    for name, text in texts.items():
        desk.do(f"put {name}\n{text}")
    return desk


class TestAnswers(Case):
    def test_example(self):
        desk = Desk(USUAL)
        self.assertEqual(desk.do("put hat\n" + HAT), "new")
        self.assertEqual([desk.do("work hat 10"), desk.do("line hat 4\n- ssk, (k) to last 2, ktog"),
                          desk.do("line hat 3\nuntil 0 just 7")],
                         ["through: 52 rows, 8 loops", "size 0: row 0, place 0: ktog, ssk", "size 0: row 12: first has ended"])

    def test_outcomes(self):
        desk = desk_with(hat=HAT, rows=ROWS, cut="round\ncast on n + 3\nrepeat 1\n- (k) to last 0\ncut 0 left 5\n",
                         end="round\ncast on n\nuntil 0 just 4\n- (k) to last 0\n",
                         two="right\ncast on n | 2 n + 1\ncut 1 right 1\nmerge 0\n")
        self.assertEqual(desk.do(f"work hat {10 ** 20}"), "through: 400000000000000000012 rows, 8 loops")
        self.assertEqual(desk.do("work rows 0"), "through: 2 rows, 3 loops")
        self.assertEqual(desk.do("work cut 1"), "fails: row 1, section 0, 4 loops")
        self.assertEqual(desk.do("work cut 2"), "through: 1 rows, 0 | 5 loops")
        self.assertEqual(desk.do("work end 3"), "endless: step 0")
        self.assertEqual(desk.do("work two 5"), "through: 0 rows, 6 | 10 loops")
        self.assertEqual(desk.do("goes hat"), "goes through at all sizes")
        self.assertEqual(desk.do("goes cut"), "size 0: fails: row 1, section 0, 3 loops")
        self.assertEqual(desk.do("goes end"), "size 0: endless: step 0")
        far = "round\ncast on 9\ntimes n - 1000000000000000000000\n- ktog, (k) to last 0\n"
        desk.do("put far\n" + far)
        self.assertEqual(desk.do("goes far"), f"size {10 ** 21 + 9}: fails: row 8, section 0, 1 loops")

    def test_comparisons(self):
        def told(first, second):
            desk = desk_with(a=first, b=second)
            return desk.do("alike a b"), desk.do("alike b a"), desk.do("put a\n" + second)
        base = "round\ncast on n + 3\nrepeat 1\n- (k) to last 0\n"
        for second, wanted, turned in (
            (base, "alike at all sizes", "alike at all sizes"),
            ("wrong" + base[5:], "alike at all sizes", "alike at all sizes"),
            (base.replace("+ 3", "+ 4"), "size 0: cast on 3, 4", "size 0: cast on 4, 3"),
            (base.replace("n + 3", "3"), "size 1: cast on 4, 3", "size 1: cast on 3, 4"),
            (base.replace("(k)", "(p)"), "size 0: row 0, place 0: k, p", "size 0: row 0, place 0: p, k"),
            (base.replace("(k) to last 0", "(k) to last 0, yo"), "size 0: row 0, place 3: end, yo",
             "size 0: row 0, place 3: yo, end"),
            (base.replace("repeat 1", "repeat 2"), "size 0: row 1: first has ended", "size 0: row 1: second has ended"),
            (base.replace("repeat 1", "repeat 0"), "size 0: row 0: second has ended", "size 0: row 0: first has ended"),
            (base.replace("(k)", "(k2)"), "size 0: row 0: second fails", "size 0: row 0: first fails"),
            (base + f"cut 0 left {10 ** 20}\n", "size 0: row 1: second fails", "size 0: row 1: first fails"),
            (base + "times n - 7\n- (p) to last 0\n", "size 8: row 1: first has ended", "size 8: row 1: second has ended"),
        ):
            self.assertEqual(told(base, second), (wanted, turned, wanted))

    def test_changes_of_lines(self):
        desk = desk_with(rows=ROWS)
        self.assertEqual(desk.do("insert rows 5\n- (p) to last 0"), "size 0: row 1, place 0: k, p")
        self.assertEqual(desk.do("show rows"), ROWS + "- (p) to last 0\n")
        self.assertEqual(desk.do("insert rows 4\n- (p) to last 0"), "size 0: row 0, place 0: k, p")
        self.assertEqual(desk.do("delete rows 4"), "size 0: row 0, place 0: p, k")
        self.assertEqual(desk.do("delete rows 5"), "size 0: row 1, place 0: p, k")
        self.assertEqual(desk.do("show rows"), ROWS)
        self.assertEqual(desk.do("line rows 1\nwrong"), "alike at all sizes")
        self.assertEqual(desk.do("line rows 2\ncast on n + 4"), "size 0: cast on 3, 4")
        self.assertEqual(desk.do("line rows 2\ncast on n + 4"), "alike at all sizes")
        self.assertEqual(desk.do("drop rows"), "done")
        self.assertEqual(desk.do("undo"), "done")
        self.assertEqual(desk.do("show rows"), "wrong\ncast on n + 4\nrepeat 2\n- (k) to last 0\n")
        self.assertEqual(desk.pattern_of("rows"), read_pattern(USUAL, desk.do("show rows")))

    def test_names_and_log(self):
        desk = Desk(book=USUAL)
        self.assertEqual((desk.book, desk.names(), desk.log(), len(desk)), (USUAL, [], [], 0))
        commands = ["put b\n" + ROWS, "put a\n" + HAT, "line b 1\nround", "delete a 5", "drop b"]
        for command in commands:
            desk.do(command=command)
        desk.do("show a")
        desk.do("work a 1")
        self.assertEqual((desk.names(), desk.log(), len(desk)), (["a"], commands, 1))
        desk.do("undo")
        self.assertEqual((desk.names(), desk.log(), len(desk)), (["a", "b"], commands[:4], 2))
        for _ in range(4):
            self.assertEqual(desk.do("undo"), "done")
        self.assertEqual((desk.names(), desk.log(), len(desk)), ([], [], 0))
        desk = desk_with(a=HAT)
        for call in (desk.names, desk.log):
            call().clear()
        self.assertEqual((desk.names(), desk.log()), (["a"], ["put a\n" + HAT]))
        self.assertEqual(desk.pattern_of(name="a"), read_pattern(USUAL, HAT))
        self.is_fixed(desk, "book")

    def test_in(self):
        desk = desk_with(k=ROWS, p=ROWS)
        for value in values():
            self.assertIs(value in desk, isinstance(value, str) and value in ("k", "p"))
        for value in [value for value in values() if not (isinstance(value, str) and value in ("k", "p"))]:
            self.fails(UnknownPattern, {"name": value}, desk.pattern_of, value)


class TestErrors(Case):
    def refused(self, desk, kind, told, command):
        """The command is refused, and the desk is as it was."""
        before = (desk.names(), desk.log(), [desk.pattern_of(name) for name in desk.names()])
        self.fails(kind, told, desk.do, command)
        self.fails(kind, told, desk.do_all, command)
        self.fails(kind, told, desk.do_all, f"put q\n{ROWS}", "show q", command)
        self.fails(kind, told, tried, desk, command)
        self.assertEqual((desk.names(), desk.log(), [desk.pattern_of(name) for name in desk.names()]), before)

    def test_books(self):
        for value in only(no_book):
            self.fails(InvalidBooks, {}, Desk, value)

    def test_what_is_no_command(self):
        desk = desk_with(hat=HAT, a=ROWS)
        for value in [value for value in values() if not isinstance(value, str)]:
            self.refused(desk, InvalidCommand, {"value": value}, value)
        for command in (
            "", " ", "\n", "hat", "Put hat\n" + HAT, "put", "put hat", "put\n" + HAT, "put hat a\n" + HAT, "put  hat\n" + HAT,
            "put hat \n" + HAT, " put hat\n" + HAT, "put Hat\n" + HAT, "put hats3\n" + HAT, "put abcdefghi\n" + HAT, "put \n" + HAT,
            "line hat 1", "line hat\nround", "line hat 1 2\nround", "line hat x\nround", "line hat -1\nround", "line hat 01\nround",
            "line hat 1\nround\n", "line hat 1\nround\nround", "line 1 hat\nround", "line hat +1\nround", "line hat  1\nround",
            "insert hat 1", "insert hat 1\nround\n", "insert hat\nround", "insert hat 1.0\nround", "delete hat", "delete hat 1\n",
            "delete hat 1\nround", "delete hat x", "delete 1", "delete hat 00", "drop", "drop hat\n", "drop hat a", "drop Hat",
            "undo ", "undo 1", "undo\n", "undo hat", "Undo", "show", "show hat\n", "show hat 1", "show hat a", "work hat", "work 1",
            "work hat n", "work hat -1", "work hat 01", "work hat 1\n", "work hat 1 2", "work hat +1", "goes", "goes hat a",
            "goes hat\n", "goes hat 1", "alike hat", "alike hat a a", "alike hat  a", "alike hat a\n", "alike hat 1", "alike",
            "names", "log", "work hat " + "1" * 30 + "x", "work nowhere 01", "alike nowhere",
        ):
            self.refused(desk, InvalidCommand, {"value": command}, command)

    def test_unknown_names(self):
        desk = desk_with(hat=HAT)
        for command, name in (
            ("line cap 1\nround", "cap"), ("line cap 0\nround", "cap"), ("insert cap 99\nround", "cap"), ("delete cap 0", "cap"),
            ("drop cap", "cap"), ("show cap", "cap"), ("work cap 1", "cap"), ("goes cap", "cap"), ("alike cap hat", "cap"),
            ("alike hat cap", "cap"), ("alike cap bag", "cap"), ("alike bag cap", "bag"),
        ):
            self.refused(desk, UnknownPattern, {"name": name}, command)
        self.assertEqual(desk.do("put cap\n" + HAT), "new")

    def test_lines_that_there_are_not(self):
        desk = desk_with(hat=HAT)
        for command in ("line hat 0\nround", "line hat 6\nround", f"line hat {FAR}\n", "delete hat 0", "delete hat 6",
                        "insert hat 0\nround", "insert hat 7\nround", "insert hat 7\n"):
            self.refused(desk, InvalidCommand, {"value": command}, command)
        # The line behind the last one can be put in.
        self.refused(desk, InvalidLine, {"line": 6}, "insert hat 6\nround")
        self.assertEqual(desk.do("insert hat 6\ncut 0 left 0"), "alike at all sizes")

    def test_nothing_to_undo(self):
        desk = Desk(USUAL)
        self.refused(desk, InvalidCommand, {"value": "undo  "}, "undo  ")
        self.fails(NothingToUndo, {}, desk.do, "undo")
        desk.do_all("put a\n" + ROWS, "undo")
        self.fails(NothingToUndo, {}, desk.do, "undo")
        self.fails(NothingToUndo, {}, desk.do_all, "put a\n" + ROWS, "undo", "undo")
        self.assertEqual((desk.names(), desk.log()), ([], []))

    def test_wrong_lines(self):
        desk = desk_with(hat=HAT)
        for command, line in (
            ("put cap\n", 1), ("put hat\n", 1), ("put cap\nround\n", 2), ("put cap\n" + HAT[:-1], 5), ("put cap\n" + HAT + "\n", 6),
            ("put cap\n\n" + HAT, 1), ("line hat 1\n", 1), ("line hat 3\n", 3), ("line hat 5\n- x", 5), ("line hat 2\nround", 2),
            ("line hat 1\nright ", 1), ("insert hat 1\nround", 2), ("insert hat 3\n- (k) to last 0", 3), ("insert hat 5\n", 5),
            ("delete hat 1", 1), ("delete hat 2", 2), ("delete hat 3", 3), ("line hat 3\nrepeat 61", 3),
            ("insert hat 4\nrepeat 1", 4), ("line hat 4\n- (kfb) to last 0", 6), ("line hat 5\nmerge 0", 5),
        ):
            self.refused(desk, InvalidLine, {"line": line}, command)
        desk.do("put row\n" + ROWS)
        self.refused(desk, InvalidLine, {"line": 4}, "delete row 4")

    def test_errors_of_functions(self):
        desk = desk_with(heavy=HEAVY, hat=HAT)
        weight = {"what": "weight", "limit": 360}
        self.assertEqual(desk.do("work heavy 0"), "fails: row 0, section 0, 9 loops")
        self.assertEqual(desk.do("show heavy"), HEAVY)
        for command in ("goes heavy", "alike heavy hat", "alike heavy heavy", "put hat\n" + HEAVY, "put heavy\n" + HAT,
                        "line heavy 1\nright", "insert heavy 7\ncut 0 left 0"):
            self.refused(desk, TooMany, weight, command)
        rows = "".join(["- (k) to last 0\n"] * 49)
        self.refused(desk, TooMany, {"what": "blocks", "limit": 48}, f"put hat\nround\ncast on 5\ntimes 1\n{rows}")
        # A wrong line goes ahead, and a new name is compared with nothing.
        self.refused(desk, InvalidLine, {"line": 1}, "line heavy 1\nleft")
        self.assertEqual(desk.do(f"put new\nround\ncast on 5\ntimes 1\n{rows}"), "new")

    def test_another_book(self):
        desk = Desk(OTHER_BOOK)
        self.refused(desk, InvalidLine, {"line": 4}, "put hat\n" + HAT)
        self.assertEqual(desk.do("put rows\n" + ROWS), "new")
        self.assertEqual((desk.book, desk.pattern_of("rows").book), (OTHER_BOOK, OTHER_BOOK))
        self.assertEqual(Desk(Book(*USUAL)).do("put hat\n" + HAT), "new")


class TestTrials(Case):
    def told(self, desk):
        return (desk.names(), desk.log(), [pattern_text(desk.pattern_of(name)) for name in desk.names()])

    def test_trial(self):
        desk = desk_with(hat=HAT)
        before = self.told(desk)
        with desk.trial() as held:
            self.assertIs(held, desk)
            self.fails(NothingToUndo, {}, desk.do, "undo")
            self.assertEqual(desk.do("drop hat"), "done")
            desk.do("put a\n" + ROWS)
            self.assertEqual((desk.names(), len(desk.log())), (["a"], 3))
            self.assertEqual([desk.do("undo"), desk.do("undo")], ["done", "done"])
            self.fails(NothingToUndo, {}, desk.do, "undo")
            self.assertEqual(self.told(desk), before)
            desk.do("drop hat")
        self.assertEqual(self.told(desk), before)
        self.assertEqual(desk.do("undo"), "done")
        self.assertEqual(desk.names(), [])

    def test_ends_by_errors(self):
        desk = desk_with(hat=HAT)
        before = self.told(desk)
        for error in (KeyError, KeyboardInterrupt, ValueError):
            with self.assertRaises(error):
                with desk.trial():
                    desk.do("drop hat")
                    raise error()
            self.assertEqual(self.told(desk), before)
        with self.assertRaises(UnknownPattern):
            with desk.trial():
                desk.do_all("put a\n" + ROWS, "drop hat")
                desk.do("show hat")
        self.assertEqual(self.told(desk), before)

        def leaves():
            with desk.trial():
                desk.do("drop hat")
                return desk.names()
        self.assertEqual((leaves(), self.told(desk)), ([], before))

    def test_trials_within_trials(self):
        desk = desk_with(hat=HAT)
        states = [self.told(desk)]
        with desk.trial():
            desk.do("put a\n" + ROWS)
            states.append(self.told(desk))
            with desk.trial():
                self.fails(NothingToUndo, {}, desk.do, "undo")
                desk.do("put b\n" + ROWS)
                states.append(self.told(desk))
                with desk.trial():
                    desk.do_all("drop a", "drop b", "drop hat")
                self.assertEqual(self.told(desk), states[2])
                desk.do("undo")
                self.fails(NothingToUndo, {}, desk.do, "undo")
                desk.do("drop hat")
            self.assertEqual(self.told(desk), states[1])
            desk.do("undo")
            self.assertEqual(self.told(desk), states[0])
            self.fails(NothingToUndo, {}, desk.do, "undo")
            desk.do("drop hat")
        self.assertEqual(self.told(desk), states[0])

    def test_trials_are_begun_by_with(self):
        desk = desk_with(hat=HAT)
        trial = desk.trial()
        desk.do("put a\n" + ROWS)
        for _ in range(2):
            with trial:
                desk.do("drop hat")
                self.assertEqual(desk.names(), ["a"])
            self.assertEqual(desk.names(), ["a", "hat"])
            desk.do("line a 1\nright")
        self.assertEqual(len(desk.log()), 4)

    def test_tried(self):
        desk = desk_with(hat=HAT)
        before = self.told(desk)
        self.assertEqual(tried(desk, "put a\n" + ROWS, "alike a a", "drop hat", "undo", "work hat 1"),
                         ["new", "alike at all sizes", "done", "done", "through: 16 rows, 8 loops"])
        self.assertEqual(tried(desk), [])
        self.fails(NothingToUndo, {}, tried, desk, "undo")
        self.fails(UnknownPattern, {"name": "hat"}, tried, desk, "drop hat", "show hat")
        self.assertEqual(self.told(desk), before)

    def test_do_all(self):
        desk = Desk(USUAL)
        self.assertEqual(desk.do_all(), [])
        self.assertEqual(desk.do_all("put a\n" + ROWS, "put b\n" + ROWS, "drop a", "undo", "goes a"),
                         ["new", "new", "done", "done", "goes through at all sizes"])
        self.assertEqual(desk.log(), ["put a\n" + ROWS, "put b\n" + ROWS])


class Model:
    """A desk that keeps the states of all commands."""

    def __init__(self):
        self.states = [{}]
        self.commands = []
        self.fast = 0

    def texts(self):
        return self.states[-1]

    def patterns(self):
        return {name: read_pattern(USUAL, text) for name, text in self.texts().items()}

    def put(self, command, name, text):
        new = read_pattern(USUAL, text)
        old = self.patterns().get(name)
        answer = "new" if old is None else self.compared(old, new)
        self.done(command, {**self.texts(), name: text})
        return answer

    def done(self, command, texts):
        self.states.append(texts)
        self.commands.append(command)

    def compared(self, one, other):
        least = Beside(one, other).least()
        if least is None:
            return "alike at all sizes"
        size, (word, *told) = least
        if word == "stitch":
            names = [name or "end" for name in told[2:]]
            return f"size {size}: row {told[0]}, place {told[1]}: {names[0]}, {names[1]}"
        if word == "cast on":
            return f"size {size}: cast on {told[0]}, {told[1]}"
        return f"size {size}: row {told[0]}: {('first', 'second')[told[1] - 1]} {'fails' if word == 'fails' else 'has ended'}"

    def told(self, outcome):
        if outcome[0] == "through":
            return f"through: {outcome[1]} rows, {' | '.join(map(str, outcome[2]))} loops"
        if outcome[0] == "fails":
            return f"fails: row {outcome[1]}, section {outcome[5]}, {outcome[6]} loops"
        return f"endless: step {outcome[1]}"

    def do(self, command):
        head, _, rest = command.partition("\n")
        word, *told = head.split(" ")
        for name in told if word != "put" else []:
            if name.isalpha() and name not in self.texts():
                raise UnknownPattern(name)
        if word == "put":
            return self.put(command, told[0], rest)
        if word == "undo":
            if len(self.commands) == self.fast:
                raise NothingToUndo()
            self.states.pop()
            self.commands.pop()
            return "done"
        if word == "drop":
            self.done(command, {name: text for name, text in self.texts().items() if name != told[0]})
            return "done"
        return self.change(command, word, told, rest) if word in ("line", "insert", "delete") else self.ask(word, told)

    def change(self, command, word, told, line):
        lines, at = self.texts()[told[0]].split("\n")[:-1], int(told[1])
        if not 1 <= at <= len(lines) + (word == "insert"):
            raise InvalidCommand(command)
        if word != "insert":
            del lines[at - 1]
        if word != "delete":
            lines.insert(at - 1, line)
        return self.put(command, told[0], "".join(f"{line}\n" for line in lines))

    def ask(self, word, told):
        patterns = self.patterns()
        if word == "show":
            return self.texts()[told[0]]
        if word == "work":
            return self.told(outcome_at(patterns[told[0]], int(told[1])))
        if word == "alike":
            return self.compared(patterns[told[0]], patterns[told[1]])
        trouble = first_trouble(patterns[told[0]])
        return "goes through at all sizes" if trouble is None else f"size {trouble[0]}: {self.told(trouble[1])}"


class TestModel(Case):
    NAMES = ("a", "b", "cap", "hat")

    def drawn_command(self, chance, model):
        name = chance.choice(self.NAMES)
        if name in model.texts() and chance.random() < 0.45:
            lines = model.texts()[name].split("\n")[:-1]
            at = chance.randint(0, len(lines) + 2)
            line = chance.choice([*lines, "- (k) to last 0", "cut 0 left 1", "merge 0", "repeat 2", "cast on 2 n + 9", "x", "",
                                  "right"])
            if 0 < at <= len(lines) and chance.random() < 0.4:
                line = lines[at - 1].replace("k", "p", 1) if chance.random() < 0.5 else lines[at - 1] + "0"
            return chance.choice([f"line {name} {at}\n{line}", f"insert {name} {at}\n{line}", f"delete {name} {at}"])
        other = chance.choice(self.NAMES)
        return chance.choice([
            f"put {name}\n{pattern_text(drawn_pattern(chance, 3, 2))}", f"put {name}\n{pattern_text(drawn_pattern(chance, 3, 2))}",
            f"put {name}\n{model.texts().get(other, ROWS)}", f"drop {name}", "undo", "undo", f"show {name}",
            f"work {name} {chance.choice([0, 3, 10 ** 20])}", f"goes {name}", f"alike {name} {other}"])

    def answered(self, call):
        """The answer, or the error with what it tells."""
        try:
            return call()
        except ERRORS as error:
            return (type(error).__name__, vars(error))

    def assert_same(self, desk, model):
        self.assertEqual((desk.names(), desk.log(), len(desk)), (sorted(model.texts()), model.commands, len(model.texts())))
        self.assertEqual({name: pattern_text(desk.pattern_of(name)) for name in desk.names()}, model.texts())

    def test_drawn(self):
        chance = drawn(211)
        seen = {}
        for _ in range(25):
            desk, model = Desk(USUAL), Model()
            for _ in range(60):
                if chance.random() < 0.1:
                    self.check_all(desk, model, chance)
                elif chance.random() < 0.1:
                    self.check_trial(desk, model, chance, 2)
                else:
                    command = self.drawn_command(chance, model)
                    answer = self.answered(lambda: desk.do(command))
                    self.assertEqual(answer, self.answered(lambda: model.do(command)), command)
                    word = answer[0] if isinstance(answer, tuple) else command.split(" ")[0]
                    seen[word] = seen.get(word, 0) + 1
                self.assert_same(desk, model)
        words = ("put", "line", "insert", "delete", "drop", "undo", "show", "work", "goes", "alike", "UnknownPattern",
                 "InvalidCommand", "InvalidLine", "NothingToUndo")
        self.assertGreater(min(seen.get(word, 0) for word in words), 5, seen)

    def check_all(self, desk, model, chance):
        commands = [self.drawn_command(chance, model) for _ in range(chance.randint(1, 3))]
        kept = (list(model.states), list(model.commands))
        try:
            wanted = [model.do(command) for command in commands]
        except ERRORS as error:
            wanted = (type(error).__name__, vars(error))
            model.states, model.commands = kept
        self.assertEqual(self.answered(lambda: desk.do_all(*commands)), wanted)

    def check_trial(self, desk, model, chance, depth):
        kept = (list(model.states), list(model.commands), model.fast)
        with desk.trial():
            model.fast = len(model.commands)
            for _ in range(chance.randint(0, 5)):
                if depth and chance.random() < 0.3:
                    self.check_trial(desk, model, chance, depth - 1)
                command = self.drawn_command(chance, model)
                self.assertEqual(self.answered(lambda: desk.do(command)), self.answered(lambda: model.do(command)))
                self.assert_same(desk, model)
        model.states, model.commands, model.fast = kept


class TestPatterns(Case):
    def test_patterns_are_those_of_the_texts(self):
        desk = desk_with(hat=HAT)
        self.assertIs(type(desk.pattern_of("hat")), Pattern)
        self.assertEqual(desk.pattern_of("hat"), read_pattern(USUAL, HAT))


if __name__ == "__main__":
    unittest.main()
