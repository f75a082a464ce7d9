"""The commands of a desk: how they are read, done on a state, and answered."""

from stitchsizes.alike import Beside
from stitchsizes.checks import is_name
from stitchsizes.errors import InvalidCommand, NothingToUndo, UnknownPattern
from stitchsizes.phrases import read_count
from stitchsizes.pieces import first_trouble
from stitchsizes.texts import pattern_text, read_pattern
from stitchsizes.working import outcome_at

# What stands behind the first word of a command; a text or a line stands behind its first line feed.
_SHAPES = {
    "put": ("name", "text"), "line": ("name", "number", "line"), "insert": ("name", "number", "line"),
    "delete": ("name", "number"), "drop": ("name",), "undo": (), "show": ("name",), "work": ("name", "number"),
    "goes": ("name",), "alike": ("name", "name"),
}


class DeskState:
    """What a desk has: the patterns by name, the commands that were done and are not taken back, as tuples (command,
    patterns ahead of it), and how many of these stand fast. A state does not change; a command gives a new one."""

    def __init__(self, patterns, history, fast):
        self.patterns = patterns
        self.history = history
        self.fast = fast


def done_on(state, book, command):
    """The state behind a command, and the answer."""
    told = _read_command(command)
    if told is None:
        raise InvalidCommand(command)
    word, names, number, text = told
    for name in names:
        if word != "put" and name not in state.patterns:
            raise UnknownPattern(name)
    if word == "undo":
        return (_taken_back(state), "done")
    patterns = dict(state.patterns)
    if word == "drop":
        del patterns[names[0]]
        return (_with_command(state, command, patterns), "done")
    if word in ("put", "line", "insert", "delete"):
        if word != "put":
            text = _changed_text(command, word, pattern_text(patterns[names[0]]), number, text)
        patterns[names[0]] = read_pattern(book, text)
        return (_with_command(state, command, patterns), _change_told(state, names[0], patterns[names[0]]))
    return (state, _answer(word, [patterns[name] for name in names], number))


def _read_command(value):
    """The first word of a command, the names, the number and the text in it; None for any other value."""
    if not isinstance(value, str):
        return None
    head, feed, text = value.partition("\n")
    words = head.split(" ")
    if words[0] not in _SHAPES:
        return None
    shape = _SHAPES[words[0]]
    behind = [sort for sort in shape if sort in ("text", "line")]
    if (feed == "\n") != (len(behind) == 1) or len(words) - 1 != len(shape) - len(behind):
        return None
    if behind == ["line"] and "\n" in text:
        return None
    names = [word for word, sort in zip(words[1:], shape) if sort == "name"]
    numbers = [read_count(word) for word, sort in zip(words[1:], shape) if sort == "number"]
    if not all([is_name(name) for name in names]) or None in numbers:
        return None
    return (words[0], names, numbers[0] if numbers else None, text)


def _taken_back(state):
    if len(state.history) == state.fast:
        raise NothingToUndo()
    return DeskState(state.history[-1][1], state.history[:-1], state.fast)


def _with_command(state, command, patterns):
    """The state in which a command was done that gives these patterns."""
    return DeskState(patterns, state.history + ((command, state.patterns),), state.fast)


def _changed_text(command, word, text, number, line):
    """The text with one line changed; InvalidCommand for the number of a line that there is not."""
    lines = text.split("\n")[:-1]
    if not 1 <= number <= len(lines) + (1 if word == "insert" else 0):
        raise InvalidCommand(command)
    ahead = lines[:number - 1]
    behind = lines[number - 1:] if word == "insert" else lines[number:]
    new = [] if word == "delete" else [line]
    return "".join([f"{told}\n" for told in ahead + new + behind])


def _change_told(state, name, pattern):
    if name not in state.patterns:
        return "new"
    return _compared(state.patterns[name], pattern)


def _answer(word, patterns, number):
    """The answer to a command that changes nothing."""
    if word == "show":
        return pattern_text(patterns[0])
    if word == "work":
        return _outcome_told(outcome_at(patterns[0], number))
    if word == "alike":
        return _compared(patterns[0], patterns[1])
    trouble = first_trouble(patterns[0])
    if trouble is None:
        return "goes through at all sizes"
    size, outcome = trouble
    return f"size {size}: {_outcome_told(outcome)}"


def _outcome_told(outcome):
    if outcome[0] == "through":
        return f"through: {outcome[1]} rows, {' | '.join([str(loops) for loops in outcome[2]])} loops"
    if outcome[0] == "fails":
        return f"fails: row {outcome[1]}, section {outcome[5]}, {outcome[6]} loops"
    return f"endless: step {outcome[1]}"


def _compared(one, other):
    least = Beside(one, other).least()
    if least is None:
        return "alike at all sizes"
    size, parting = least
    return f"size {size}: {_parting_told(parting)}"


def _parting_told(parting):
    if parting[0] == "cast on":
        return f"cast on {parting[1]}, {parting[2]}"
    if parting[0] == "stitch":
        names = ["end" if name is None else name for name in parting[3:]]
        return f"row {parting[1]}, place {parting[2]}: {', '.join(names)}"
    side = "first" if parting[2] == 1 else "second"
    return f"row {parting[1]}: {side} {'fails' if parting[0] == 'fails' else 'has ended'}"
