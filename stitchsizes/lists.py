"""Lists of section texts, each of which is worked on the loops that the one before has made."""

from stitchsizes.checks import is_list_of
from stitchsizes.errors import InvalidTexts, NotFitting
from stitchsizes.progressions import common_part, place_in, places_within
from stitchsizes.sections import SectionText

_MOST_TEXTS = 240


def counts_through(texts):
    """The progression of the counts that fit a list of section texts, or None."""
    _check_texts(texts)
    through = _worked_through(texts)
    return None if through is None else through[0]


def made_through(texts):
    """The tuple (made_first, made_step) of what the last text of a list makes, or None."""
    _check_texts(texts)
    through = _worked_through(texts)
    return None if through is None else through[1]


def worked_through(texts, loops):
    """The list of the long words that a list of section texts makes, begun with so many loops."""
    _check_texts(texts)
    words = []
    for position, text in enumerate(texts):
        if not text.fits(loops):
            raise NotFitting(position, loops)
        words.append(text.word(loops))
        loops = text.made(loops)
    return words


def common_counts(one, other):
    """The progression of the counts that fit both of two lists of section texts, or None."""
    counts = counts_through(one)
    others = counts_through(other)
    if counts is None or others is None:
        return None
    return common_part(counts, others)


def _check_texts(texts):
    if not is_list_of(texts, 1, _MOST_TEXTS):
        raise InvalidTexts(None)
    for position, text in enumerate(texts):
        if not isinstance(text, SectionText) or text.book != texts[0].book:
            raise InvalidTexts(position)


def _worked_through(texts):
    """The progression of the counts that fit all texts, and the tuple of what is made of them, or None."""
    through = (texts[0].counts(), texts[0].made_counts())
    for text in texts[1:]:
        if through is not None:
            through = _worked_next(through[0], through[1], text)
    return through


def _worked_next(counts, made, text):
    """The counts that also fit the next text, and what it makes of them, or None."""
    fitting = text.counts()
    places = places_within(made, fitting)
    if places is None:
        return None
    first, step = places
    start = place_in(fitting, made[0] + first * made[1])
    # With the step 0 the text has one count, and only one thing is made.
    stride = 0 if fitting[1] == 0 else step * made[1] // fitting[1]
    new_first, new_step = text.made_counts()
    return ((counts[0] + first * counts[1], step * counts[1]), (new_first + start * new_step, stride * new_step))
