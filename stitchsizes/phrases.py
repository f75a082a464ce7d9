"""The phrases of which the texts of patterns are made: numbers, words and section texts are written, numbers and words
are read.

What is read is read exactly: it is something only if it is written just so. The functions that read tell None if not.
"""

from stitchsizes.sections import Evenly, Kept

_DIGITS = "0123456789"
_MOST_DIGITS = 1000
_MOST_NAMES = 240


def number_text(p, q):
    """The text of a number form."""
    if q == 0:
        return f"{p}"
    times = "n" if q == 1 else "-n" if q == -1 else f"{q} n"
    if p == 0:
        return times
    return f"{times} + {p}" if p > 0 else f"{times} - {-p}"


def runs_text(word):
    """The text of a word: its runs."""
    runs = []
    for name in word:
        if runs and runs[-1][0] == name:
            runs[-1] = (name, runs[-1][1] + 1)
        else:
            runs.append((name, 1))
    return ", ".join([name if many == 1 else f"{name}{many}" for name, many in runs])


def section_phrase(text):
    """The text of a section text."""
    if isinstance(text, Evenly):
        return f"evenly {text.times} ({runs_text(text.deed)}) in {text.plain}"
    before = f"{runs_text(text.before)}, " if text.before else ""
    after = f", {runs_text(text.after)}" if text.after else ""
    repeated = runs_text(text.repeated)
    middle = f"keep {repeated} from {text.shift}" if isinstance(text, Kept) else f"({repeated})"
    return f"{before}{middle} to last {text.book.taken(text.after)}{after}"


def row_phrase(row):
    """The text of a row text."""
    return " | ".join([section_phrase(text) for text in row.texts])


def read_count(text):
    """The count that a text is."""
    if not text or len(text) > _MOST_DIGITS or not all([digit in _DIGITS for digit in text]):
        return None
    return None if text[0] == "0" and len(text) > 1 else int(text)


def read_integer(text):
    """The integer that a text is."""
    if not text.startswith("-"):
        return read_count(text)
    amount = read_count(text[1:])
    return None if amount is None or amount == 0 else -amount


def read_number(text):
    """The tuple (p, q) of the number form that a text is."""
    times, letter, rest = text.partition("n")
    if not letter:
        p = read_integer(text)
        return None if p is None else (p, 0)
    q = _read_factor(times)
    p = read_count(rest[3:]) if rest else 0
    if q is None or p is None:
        return None
    if rest.startswith(" - "):
        p = -p
    return (p, q) if number_text(p, q) == text else None


def read_runs(book, text):
    """The word of a book that a text is."""
    word = ()
    for run in text.split(", ") if text else []:
        name, many = _read_run(run)
        if name not in book or many is None or len(word) + many > _MOST_NAMES:
            return None
        word = word + (name,) * many
    return word if runs_text(word) == text else None


def _read_factor(text):
    """The factor of n that stands ahead of it, with what stands between."""
    if text in ("", "-"):
        return -1 if text else 1
    return read_integer(text[:-1])


def _read_run(run):
    """The letters with which a run begins, and how often they stand as the rest says, None if it says nothing."""
    length = 0
    while length < len(run) and run[length] not in _DIGITS:
        length = length + 1
    return (run[:length], 1 if length == len(run) else read_count(run[length:]))
