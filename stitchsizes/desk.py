"""A desk at which patterns are written, changed, asked and compared by commands."""

from stitchsizes.commands import DeskState, done_on
from stitchsizes.errors import InvalidBooks, UnknownPattern
from stitchsizes.kinds import Book


class Desk:
    """A book, and patterns of this book by names."""

    def __init__(self, book):
        if not isinstance(book, Book):
            raise InvalidBooks()
        self._book = book
        self._state = DeskState({}, (), 0)

    @property
    def book(self):
        """The book of the patterns."""
        return self._book

    def do(self, command):
        """Does a command, and tells the answer."""
        state, answer = done_on(self._state, self._book, command)
        self._state = state
        return answer

    def do_all(self, *commands):
        """Does all commands, or none if one of them fails, and tells the list of the answers."""
        state = self._state
        answers = []
        for command in commands:
            state, answer = done_on(state, self._book, command)
            answers.append(answer)
        self._state = state
        return answers

    def names(self):
        """The names of the patterns, sorted."""
        return sorted(list(self._state.patterns))

    def pattern_of(self, name):
        """The pattern with a name."""
        if name not in self:
            raise UnknownPattern(name)
        return self._state.patterns[name]

    def log(self):
        """The commands that have changed something and are not taken back."""
        return [command for command, _ in self._state.history]

    def trial(self):
        """A context manager behind which the desk is as it was ahead of it."""
        return Trial(self)

    def __contains__(self, x):
        return isinstance(x, str) and x in self._state.patterns

    def __len__(self):
        return len(self._state.patterns)


class Trial:
    """What is done at a desk inside a with statement, and taken back when it ends. Trials are made by desks."""

    def __init__(self, desk):
        self._desk = desk
        self._before = None

    def __enter__(self):
        desk = self._desk
        state = desk._state
        self._before = state
        desk._state = DeskState(state.patterns, state.history, len(state.history))
        return desk

    def __exit__(self, kind, value, trace):
        desk = self._desk
        desk._state = self._before


def tried(desk, *commands):
    """Does commands in a trial of a desk, and tells the list of the answers."""
    with desk.trial() as held:
        return [held.do(command) for command in commands]
