"""Sequences of letters that are kept as runs.

Runs are a tuple of tuples (word, number): each word is repeated so many times. Tidy runs have neither empty
words nor the number 0. The numbers can be far too large for going through the letters one by one.
"""


def tidy(parts):
    """The runs of a list of tuples (word, number)."""
    runs = []
    for word, number in parts:
        if number > 0 and len(word) > 0:
            if runs and runs[-1][0] == word:
                runs[-1] = (word, runs[-1][1] + number)
            else:
                runs.append((tuple(word), number))
    return tuple(runs)


def run_length(runs):
    """How many letters there are."""
    return sum([len(word) * number for word, number in runs])


def letter_count(runs, name):
    """How many letters are a name."""
    return sum([word.count(name) * number for word, number in runs])


def letters_from(runs, first, many):
    """The list of the letters from a place on, as many as there are up to a number."""
    found = []
    for word, number in runs:
        length = len(word) * number
        if first >= length:
            first = first - length
        else:
            found.extend(_stretch(word, first, min(length - first, many - len(found))))
            first = 0
        if len(found) == many:
            break
    return found


def unlike_place(runs, others):
    """The first place at which two tidy runs differ, or at which only one of them ends; None if they are equal."""
    place = 0
    at = used = 0
    where = spent = 0
    while at < len(runs) and where < len(others):
        word, number = runs[at]
        other, times = others[where]
        left = len(word) * number - used
        remaining = len(other) * times - spent
        both = min(left, remaining)
        unlike = _unlike_within(word, used, other, spent, both)
        if unlike is not None:
            return place + unlike
        place = place + both
        used = used + both
        spent = spent + both
        if left == both:
            at = at + 1
            used = 0
        if remaining == both:
            where = where + 1
            spent = 0
    if at == len(runs) and where == len(others):
        return None
    return place


def _unlike_within(word, used, other, spent, many):
    """The first unlike one of so many letters of two repeated words, each read from a place on, or None."""
    # Two repetitions that agree over the length of both their words agree for ever (Fine and Wilf).
    few = min(many, len(word) + len(other))
    one = _stretch(word, used, few)
    two = _stretch(other, spent, few)
    if one == two:
        return None
    for place in range(few):
        if one[place] != two[place]:
            return place
    return None


def _stretch(word, first, many):
    """So many letters of a word that is repeated for ever, from a place on."""
    start = first % len(word)
    times = (start + many) // len(word) + 1
    return (word * times)[start:start + many]
