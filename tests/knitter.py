"""A knitter who works patterns loop by loop, and draws patterns. It uses the objects of the package only to be told
what stands in them."""

from support import USUAL, drawn_word
from stitchsizes.patterns import Cut, Merge, Pattern, Repeat, Times, Until
from stitchsizes.rows import RowText
from stitchsizes.sections import Evenly, Kept, Rested

# An UNTIL that ends or fails changes a section in each round, so it needs no more rounds than there are loops, or than
# it looks for; drawn patterns look for 30 at the most.
SPARE_ROUNDS = 40
FLAT = ("k", "p", "ktog", "ssk", "yo", "bo")
ROUND = (*FLAT, "kfb", "cdd")


def takes(book, names):
    return sum(book.kind(name).takes for name in names)


def letters_of(text, loops):
    """The letters of a section text on so many loops, or None."""
    if isinstance(text, Evenly):
        rest = loops - text.times * takes(text.book, text.deed)
        if rest < 0:
            return None
        names = []
        for run in range(text.times + 1):
            many = (run + 1) * rest // (text.times + 1) - run * rest // (text.times + 1)
            names += [text.plain] * many + (list(text.deed) if run < text.times else [])
        return names
    rest = loops - takes(text.book, text.before + text.after)
    if isinstance(text, Kept):
        if rest < 0:
            return None
        inner = [text.repeated[(at + text.shift) % len(text.repeated)] for at in range(rest)]
        return [*text.before, *inner, *text.after]
    inner = []
    while text.repeated and rest > 0:
        inner += text.repeated
        rest -= takes(text.book, text.repeated)
    return [*text.before, *inner, *text.after] if rest == 0 else None


class Knitter:
    """Works a pattern at a size, and remembers the rows."""

    def __init__(self, pattern, size):
        self.book = pattern.book
        # Loops are told by the names of the kinds that made them.
        self.needle = [["on"] * (p + q * size) for p, q in pattern.cast_on]
        self.cast_on = sum(len(section) for section in self.needle)
        self.rows = []  # for each row its letters, the counts ahead of it, and where it stands
        self.outcome = None
        for number, step in enumerate(pattern.steps):
            self.work_step(number, step, size)
            if self.outcome is not None:
                return
        self.outcome = ("through", len(self.rows), self.counts())

    def counts(self):
        return tuple(len(section) for section in self.needle)

    def work_step(self, number, step, size):
        if isinstance(step, Cut):
            section = self.needle[step.section]
            if len(section) < step.loops:
                self.outcome = ("fails", len(self.rows), number, 0, 0, step.section, len(section))
                return
            at = step.loops if step.edge == "right" else len(section) - step.loops
            self.needle[step.section:step.section + 1] = [section[:at], section[at:]]
        elif isinstance(step, Merge):
            both = self.needle[step.section:step.section + 2]
            self.needle[step.section:step.section + 2] = [both[0] + both[1]]
        else:
            times = 0
            most = SPARE_ROUNDS + sum(self.counts())
            while not self.has_ended(step, times, size) and self.outcome is None:
                if isinstance(step, Until) and times > most:
                    self.outcome = ("endless", number)
                    return
                self.work_round(number, step.block, times)
                times += 1

    def has_ended(self, step, times, size):
        if isinstance(step, Repeat):
            return times == step.times
        if isinstance(step, Times):
            return times >= step.p + step.q * size
        loops = len(self.needle[step.section])
        return {"just": loops == step.loops, "at most": loops <= step.loops, "at least": loops >= step.loops}[step.way]

    def work_round(self, number, block, times):
        for index, row in enumerate(block):
            words = [letters_of(text, len(section)) for text, section in zip(row.texts, self.needle)]
            unfit = [section for section, word in enumerate(words) if word is None]
            if unfit:
                loops = len(self.needle[unfit[0]])
                self.outcome = ("fails", len(self.rows), number, times, index, unfit[0], loops)
                return
            self.rows.append((sum(words, []), self.counts(), (number, times, index)))
            self.needle = [self.worked(section, word) for section, word in zip(self.needle, words)]

    def worked(self, section, word):
        made, at = [], 0
        for name in word:
            kind = self.book.kind(name)
            at += kind.takes
            made += [name] * kind.makes
        assert at == len(section)
        return made


def drawn_steady(chance, names):
    """The texts of a section in a block that changes it by the same number in each round."""
    if "kfb" in names and chance.random() < 0.2:
        return [Rested(USUAL, (), ("kfb",), ()), Rested(USUAL, drawn_word(chance, names, 1), ("ktog",), ())]
    texts = []
    for _ in range(2):
        ends = [drawn_word(chance, names, chance.choice([0, 1, 2])) for _ in range(2)]
        if chance.random() < 0.3:
            repeated = drawn_word(chance, ["k", "p"], 3) + ("k",)
            texts.append(Kept(USUAL, ends[0], repeated, ends[1], shift=chance.randrange(len(repeated))))
        else:
            repeated = chance.choice([("k",), ("k",), ("k",), ("k", "p"), ("ktog", "yo"), ("ktog", "yo", "k"), ()])
            texts.append(Rested(USUAL, ends[0], repeated, ends[1]))
    return texts


def drawn_loose(chance, names):
    """Two texts for a block of REPEAT."""
    texts = []
    for _ in range(2):
        if chance.random() < 0.2:
            texts.append(Evenly(USUAL, drawn_word(chance, names, 1) + ("k",), chance.randint(1, 3), "p"))
        elif chance.random() < 0.2:
            texts.append(Rested(USUAL, (), chance.choice([("ktog",), ("k", "yo"), ("k", "k", "ktog")]), ()))
        else:
            texts.append(drawn_steady(chance, names)[0])
    return texts


def drawn_block(chance, sections, names, draw):
    columns = [draw(chance, names) for _ in range(sections)]
    many = max(1, chance.choice([1, 2, 2])) if draw is drawn_loose else 2
    return [RowText(*[column[at] for column in columns]) for at in range(many)]


def drawn_pattern(chance, steps=3, sections=3, loops=14):
    """A pattern of some steps, in the round or flat."""
    way = chance.choice(["round", "right", "wrong"])
    names = ROUND if way == "round" else FLAT
    many = chance.randint(1, sections)
    cast_on = [(chance.randint(0, loops), chance.randint(0, 3)) for _ in range(many)]
    told = []
    for _ in range(chance.randint(0, steps)):
        sort = chance.randint(0, 6)
        if sort == 0 and many < 6:
            told.append(Cut(chance.randrange(many), chance.choice(["right", "left"]), chance.randint(0, 6)))
            many += 1
        elif sort == 1 and many > 1:
            told.append(Merge(chance.randrange(many - 1)))
            many -= 1
        elif sort == 2:
            told.append(Repeat(drawn_block(chance, many, names, drawn_loose), chance.randint(0, 4)))
        elif sort in (3, 4):
            told.append(Times(drawn_block(chance, many, names, drawn_steady), chance.randint(-4, 4), chance.randint(-1, 2)))
        else:
            told.append(Until(drawn_block(chance, many, names, drawn_steady), chance.randrange(many),
                              chance.choice(["just", "at most", "at least"]), chance.randint(0, 30)))
    return Pattern(USUAL, way, cast_on, told)
