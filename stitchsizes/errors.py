"""The errors that this package raises, with what they tell as attributes."""


class StitchError(ValueError):
    """A value that is not allowed where it was passed."""


class InvalidName(StitchError):
    """No name, where one is needed."""

    def __init__(self, value):
        self.value = value


class InvalidNumber(StitchError):
    """No number, or one that is not allowed here."""

    def __init__(self, value):
        self.value = value


class InvalidKind(StitchError):
    """No kind of stitch, or the name of one that neither takes nor makes a loop."""

    def __init__(self, value):
        self.value = value


class InvalidBook(StitchError):
    """Kinds that make no book: what is wrong, and the first kind with which it is."""

    def __init__(self, problem, name):
        self.problem = problem
        self.name = name


class InvalidWord(StitchError):
    """No word of the book that is asked."""

    def __init__(self, value):
        self.value = value


class InvalidParts(StitchError):
    """No list of parts, or the position of the first part that is none."""

    def __init__(self, position):
        self.position = position


class InvalidText(StitchError):
    """Words that make no section text: the parameter that is wrong."""

    def __init__(self, problem):
        self.problem = problem


class InvalidTexts(StitchError):
    """No list of section texts, or the position of the first element that is none."""

    def __init__(self, position):
        self.position = position


class InvalidCounts(StitchError):
    """No tuple of counts, one for each section."""

    def __init__(self, value):
        self.value = value


class InvalidSection(StitchError):
    """No number of a section."""

    def __init__(self, value):
        self.value = value


class InvalidEdge(StitchError):
    """No edge of a section."""

    def __init__(self, value):
        self.value = value


class InvalidRows(StitchError):
    """No list of rows, or the position of the first row that cannot stand there."""

    def __init__(self, position):
        self.position = position


class InvalidWay(StitchError):
    """No way to work, no side, or no way to look at a count."""

    def __init__(self, value):
        self.value = value


class InvalidCastOn(StitchError):
    """No cast-on, or the position of the first section that is wrong."""

    def __init__(self, position):
        self.position = position


class InvalidSteps(StitchError):
    """No list of steps, or the position of the first step that cannot stand there."""

    def __init__(self, position):
        self.position = position


class InvalidBlock(StitchError):
    """No block of rows, or the position of the first row text that cannot stand there."""

    def __init__(self, position):
        self.position = position


class InvalidStretches(StitchError):
    """The position of the first value that is no stretch of sizes."""

    def __init__(self, position):
        self.position = position


class InvalidSchedules(StitchError):
    """No list of schedules, or the position of the first one that cannot stand there."""

    def __init__(self, position):
        self.position = position


class InvalidSketch(StitchError):
    """No sketch."""

    def __init__(self, value):
        self.value = value


class InvalidPattern(StitchError):
    """No pattern."""

    def __init__(self, value):
        self.value = value


class InvalidBooks(StitchError):
    """No book, or books that are unlike."""


class InvalidForm(StitchError):
    """No form, or one that is not allowed here."""

    def __init__(self, value):
        self.value = value


class InvalidPoint(StitchError):
    """No point, or no coordinate of one."""

    def __init__(self, value):
        self.value = value


class InvalidCell(StitchError):
    """No cell, or the position of the first condition that is no form."""

    def __init__(self, position):
        self.position = position


class InvalidFamily(StitchError):
    """No family, or one of another book."""

    def __init__(self, value):
        self.value = value


class InvalidLine(StitchError):
    """A text that cannot be read: the first line that is wrong."""

    def __init__(self, line):
        self.line = line


class InvalidCommand(StitchError):
    """No command of a desk."""

    def __init__(self, value):
        self.value = value


class MissingError(LookupError):
    """Something that is not there."""


class UnknownKind(MissingError):
    """The book has no kind of this name."""

    def __init__(self, name):
        self.name = name


class NoBack(MissingError):
    """The kind of this name has no back."""

    def __init__(self, name):
        self.name = name


class NoMirror(MissingError):
    """The kind of this name has no mirror."""

    def __init__(self, name):
        self.name = name


class NoRow(MissingError):
    """There is no row with this number."""

    def __init__(self, number):
        self.number = number


class UnknownPattern(MissingError):
    """The desk has no pattern of this name."""

    def __init__(self, name):
        self.name = name


class StateError(RuntimeError):
    """Something that cannot be done as things stand."""


class NotFitting(StateError):
    """A text, or a cut, that does not fit the loops: the section, or the position, and its loops."""

    def __init__(self, section, loops):
        self.section = section
        self.loops = loops


class NotThrough(StateError):
    """A pattern does not go through: its outcome."""

    def __init__(self, outcome):
        self.outcome = outcome


class BelowZero(StateError):
    """A form is below 0: the position of its part."""

    def __init__(self, position):
        self.position = position


class NothingToUndo(StateError):
    """There is no command that can be taken back."""


class LimitError(ArithmeticError):
    """More than a limit allows."""


class TooMany(LimitError):
    """There are more of these than the limit."""

    def __init__(self, what, limit):
        self.what = what
        self.limit = limit
