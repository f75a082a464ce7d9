"""Pairs of patterns that are drawn, and what two knitters' work comes to beside each other, row by row."""

from knitter import drawn_pattern
from support import USUAL
from stitchsizes.errors import StitchError
from stitchsizes.patterns import Cut, Merge, Pattern, Repeat, Times, Until
from stitchsizes.rows import RowText
from stitchsizes.sections import Kept, Rested

ENDS = (
    ((), ()), ((), ()), ((), ()), (("ktog",), ()), ((), ("ssk",)), (("ktog",), ("ssk",)), (("yo",), ()), ((), ("yo",)),
    (("k", "yo"), ("yo", "k")), (("k",), ()), (("bo",), ("p",)), (("yo",), ("ktog",)), (("cdd",), ()),
)
RIBS = (("k", "p"), ("k", "k", "p"), ("k", "p", "p"), ("p", "k"), ("k", "k", "k", "p"))


def beside(one, other):
    """The word and the first parting of two knitters who have worked at the same size: [81], [82]."""
    through = [knitter.outcome[0] == "through" for knitter in (one, other)]
    rows = [[names for names, _, _ in knitter.rows] for knitter in (one, other)]
    if not any(through):
        return ("neither", None)
    if all(through) and one.cast_on == other.cast_on and rows[0] == rows[1]:
        return ("alike", None)
    if one.cast_on != other.cast_on:
        return ("parted", ("cast on", one.cast_on, other.cast_on))
    row = 0
    while True:
        for side, knitter in enumerate((one, other)):
            if knitter.outcome[0] == "fails" and row == len(rows[side]):
                return ("parted", ("fails", row, side + 1))
        for side, knitter in enumerate((one, other)):
            if knitter.outcome[0] == "through" and row == len(rows[side]):
                return ("parted", ("lacks", row, side + 1))
        words = [told[row] for told in rows]
        if words[0] != words[1]:
            place = 0
            while all(place < len(word) for word in words) and words[0][place] == words[1][place]:
                place += 1
            names = [word[place] if place < len(word) else None for word in words]
            return ("parted", ("stitch", row, place, *names))
        row += 1


def solid_text(chance):
    before, after = chance.choice(ENDS)
    sort = chance.random()
    if sort < 0.6:
        return Rested(USUAL, before, ("k",) if sort < 0.45 else ("p",), after)
    repeated = chance.choice(RIBS)
    return Kept(USUAL, before, repeated, after, shift=chance.randrange(len(repeated)))


def solid_pattern(chance):
    """A pattern of one to four steps that goes through at many sizes."""
    many = chance.choice([1, 1, 2, 2, 3])
    cast_on = [(chance.randint(8, 36), chance.choice([0, 1, 1, 2, 3])) for _ in range(many)]
    steps = []
    for _ in range(chance.randint(1, 4)):
        sort = chance.random()
        block = [RowText(*[solid_text(chance) for _ in range(many)]) for _ in range(chance.choice([1, 1, 2, 2, 3]))]
        if sort < 0.2:
            steps.append(Repeat(block, chance.randint(0, 4)))
        elif sort < 0.55:
            steps.append(Times(block, chance.randint(-3, 5), chance.choice([0, 1, 1, 2])))
        elif sort < 0.85:
            way = chance.choice(["at most", "at least", "at most", "just"])
            steps.append(Until(block, chance.randrange(many), way, chance.randint(4, 40)))
        elif sort < 0.92 and many < 4:
            steps.append(Cut(chance.randrange(many), chance.choice(["right", "left"]), chance.randint(0, 6)))
            many += 1
        elif many > 1:
            steps.append(Merge(chance.randrange(many - 1)))
            many -= 1
    return Pattern(USUAL, "round", cast_on, steps)


def varied_rested(chance, text):
    """The text written otherwise, often with the same words."""
    sort = chance.randint(0, 6)
    if sort == 0:
        return Rested(USUAL, text.before, text.repeated * 2, text.after)
    if sort == 1:
        return Rested(USUAL, text.before + text.repeated, text.repeated, text.after)
    if sort == 2:
        return Rested(USUAL, text.before + text.repeated[:1], text.repeated[1:] + text.repeated[:1],
                      text.repeated[1:] + text.after)
    if sort == 3:
        return Rested(USUAL, text.before, text.repeated, text.repeated + text.after)
    if sort == 4 and text.repeated == ("k",):
        return Kept(USUAL, text.before, ("k", "k"), text.after)
    if sort == 5:
        return Rested(USUAL, text.before, tuple("p" if name == "k" else name for name in text.repeated), text.after)
    return Rested(USUAL, text.after, text.repeated, text.before)


def varied_text(chance, text):
    if isinstance(text, Rested):
        return varied_rested(chance, text)
    if not isinstance(text, Kept):
        return text
    sort = chance.random()
    if sort < 0.4:
        return Kept(USUAL, text.before, text.repeated * 2, text.after, shift=text.shift)
    if sort < 0.8:
        return Kept(USUAL, text.before, text.repeated[text.shift:] + text.repeated[:text.shift], text.after)
    return Kept(USUAL, text.before, text.repeated, text.after, shift=(text.shift + 1) % len(text.repeated))


def varied_block(chance, block):
    rows = list(block)
    at = chance.randrange(len(rows))
    texts = list(rows[at].texts)
    section = chance.randrange(len(texts))
    texts[section] = varied_text(chance, texts[section])
    rows[at] = RowText(*texts)
    return rows


def varied_step(chance, step):
    """The steps in the place of a step."""
    sort = chance.random()
    if isinstance(step, Repeat):
        if sort < 0.6:
            return [Repeat(varied_block(chance, step.block), step.times)]
        if sort < 0.8 and step.times:
            return [Repeat(step.block, 1), Repeat(step.block, step.times - 1)]
        return [Repeat(step.block, step.times + 1)]
    if isinstance(step, Times):
        if sort < 0.5:
            return [Times(varied_block(chance, step.block), step.p, step.q)]
        if sort < 0.7:
            return [Times(step.block, step.p - 1, step.q), Repeat(step.block, 1)]
        if sort < 0.8:
            return [Times(step.block, step.p + chance.randint(-1, 1), step.q + chance.choice([0, 1]))]
        return [Times(list(step.block) * 2, 0, 1), Times(step.block, step.p, step.q - 2)]
    if isinstance(step, Until):
        if sort < 0.5:
            return [Until(varied_block(chance, step.block), step.section, step.way, step.loops)]
        if sort < 0.7:
            return [Until(step.block, step.section, step.way, max(0, step.loops + chance.randint(-1, 1)))]
        if sort < 0.85:
            return [Until(step.block, step.section, step.way, step.loops + 4), step]
        return [Times(step.block, chance.randint(0, 5), chance.randint(0, 2))]
    if isinstance(step, Cut):
        return [Cut(step.section, step.edge, max(0, step.loops + chance.randint(-1, 1)))]
    return [step]


def varied(chance, told):
    """The pattern with a change or two, or None if that makes none."""
    steps, cast_on = list(told.steps), list(told.cast_on)
    for _ in range(chance.choice([1, 1, 2])):
        if not steps or chance.random() < 0.15:
            at = chance.randrange(len(cast_on))
            p, q = cast_on[at]
            cast_on[at] = (max(0, p + chance.randint(-1, 1)), max(0, q + chance.choice([0, 0, 1, -1])))
        else:
            at = chance.randrange(len(steps))
            steps[at:at + 1] = varied_step(chance, steps[at])
    try:
        return Pattern(told.book, told.way, cast_on, steps)
    except (StitchError, LookupError):
        return None


def otherwise_divided(chance, told):
    """The pattern with some loops of a section in the next one, or None."""
    cast_on = list(told.cast_on)
    if len(cast_on) < 2:
        return None
    at, moved = chance.randrange(len(cast_on) - 1), chance.randint(1, 3)
    (p, q), (r, s) = cast_on[at:at + 2]
    cast_on[at:at + 2] = [(p + moved, q), (r - moved, s)]
    return None if r < moved else Pattern(told.book, told.way, cast_on, told.steps)


def drawn_pair(chance):
    """Two patterns, one of them often made of the other one; the second one can be None."""
    sort = chance.random()
    if sort < 0.2:
        one = drawn_pattern(chance, 3, 2)
        return one, varied(chance, one)
    one = solid_pattern(chance)
    if sort < 0.4:
        return one, otherwise_divided(chance, one)
    return one, solid_pattern(chance) if sort < 0.45 else varied(chance, one)


def late_pair(chance):
    """Two patterns that part only where a section has got many loops: their blocks are written otherwise, and a word of
    the second one has a p far behind the beginning."""
    more = ("yo",) * chance.randint(1, 3)
    length = chance.randint(6, 18)
    plain = RowText(Rested(USUAL, (), ("k",), ()))
    row = RowText(Rested(USUAL, (), ("k",), more))
    twin = RowText(Kept(USUAL, (), ("k",) * (length - 1) + ("p",), more))
    p, q = chance.randint(-6, 4), chance.choice([1, 1, 2, 3])
    cast_on = [(chance.randint(0, 9), chance.choice([0, 0, 1]))]
    first = [plain] * chance.randint(0, 2) + [row]
    second = [plain] * (len(first) - 1) + [twin]
    steps = [Repeat([plain], chance.randint(0, 2))]
    others = list(steps)
    if chance.random() < 0.5:
        # Two rounds of the block in one: the number of rounds is one more, or not, behind it.
        steps.append(Times(first, 2 * p, 2 * q))
        others.append(Times(second * 2, p, q))
    else:
        steps.append(Until(first, 0, "at least", chance.randint(5, 40)))
        others.append(Until(second, 0, "at least", steps[1].loops + chance.choice([0, 0, 0, 1])))
    return Pattern(USUAL, "round", cast_on, steps), Pattern(USUAL, "round", cast_on, others)
