"""A knitter who works sketches loop by loop, and draws sketches."""

from math import lcm

from knitter import FLAT, ROUND, Knitter, drawn_block, drawn_loose, drawn_steady, letters_of, takes
from support import USUAL, drawn_word
from stitchsizes.errors import TooMany
from stitchsizes.patterns import Cut, Merge, Repeat, Times, Until
from stitchsizes.rows import RowText
from stitchsizes.schedules import Along, Schedule, Sketch
from stitchsizes.sections import Kept, Rested


class Sketcher(Knitter):
    """Works a sketch at a size, and remembers the rows. Of an ALONG the rows have no place."""

    def work_step(self, number, step, size):
        if isinstance(step, Along):
            self.work_along(step, size)
        else:
            super().work_step(number, step, size)

    def work_along(self, along, size):
        worked = [0] * len(along.schedules)
        ended = [schedule.times is not None and schedule.times[0] + schedule.times[1] * size <= 0
                 for schedule in along.schedules]
        moved = [0] * len(self.needle)
        row = quiet = 0
        while self.outcome is None:
            before = list(ended)
            meeting = [row >= told.first and (row - told.first) % told.every == 0 for told in along.schedules]
            for place, schedule in enumerate(along.schedules):
                if meeting[place] and schedule.until is not None:
                    ended[place] |= len(self.needle[schedule.section]) <= schedule.until
            if along.rows is None and all(ended) or along.rows and row >= along.rows[0] + along.rows[1] * size:
                return
            working = [place for place in range(len(along.schedules)) if meeting[place] and not ended[place]]
            self.work_row(along, row, working, moved)
            for place in working:
                worked[place] += 1
                schedule = along.schedules[place]
                if schedule.times is not None:
                    ended[place] = worked[place] == schedule.times[0] + schedule.times[1] * size
            row += 1
            quiet = quiet + 1 if ended == before and row > max(told.first for told in along.schedules) else 0
            if self.goes_on(along, ended, quiet):
                self.outcome = ("endless", None)

    def goes_on(self, along, ended, quiet):
        """Whether an ALONG never ends: only schedules with an until go on, nothing has ended for two periods, and no
        section has got fewer loops in the last one."""
        period = lcm(len(along.base), *[schedule.every for schedule in along.schedules])
        if self.outcome or along.rows or quiet <= 2 * period or quiet % period:
            return False
        if [told for told, is_over in zip(along.schedules, ended) if not is_over and told.until is None]:
            return False
        return all(before <= now for before, now in zip(self.rows[-period][1], self.counts()))

    def work_row(self, along, row, working, moved):
        words = []
        for section, loops in enumerate(self.needle):
            here = [along.schedules[place] for place in working if along.schedules[place].section == section]
            right = [name for told in here if told.edge == "right" for name in told.deed]
            left = [name for told in here[::-1] if told.edge == "left" for name in told.deed]
            rest = len(loops) - takes(self.book, right) - takes(self.book, left)
            text = along.base[row % len(along.base)].texts[section]
            if isinstance(text, Kept):
                shift = (text.shift + moved[section] + takes(self.book, right)) % len(text.repeated)
                text = Kept(self.book, (), text.repeated, (), shift=shift)
            inner = None if rest < 0 else letters_of(text, rest)
            if inner is None:
                self.outcome = ("fails", len(self.rows), None, None, None, section, len(loops))
                return
            words.append([*right, *inner, *left])
            moved[section] += sum(self.book.kind(name).takes - self.book.kind(name).makes for name in right)
        self.rows.append((sum(words, []), self.counts(), None))
        self.needle = [self.worked(section, word) for section, word in zip(self.needle, words)]

    def told(self):
        """The outcome as a sketch has it."""
        return self.outcome if self.outcome[0] == "through" else self.outcome[:2 if self.outcome[0] == "fails" else 1]


def drawn_base(chance, names, sections):
    rows = []
    for _ in range(chance.choice([1, 1, 2, 3])):
        texts = []
        for _ in range(sections):
            if chance.random() < 0.4:
                repeated = drawn_word(chance, ["k", "p"], 2) + ("k",)
                texts.append(Kept(USUAL, (), repeated, (), shift=chance.randrange(len(repeated))))
            else:
                repeated = chance.choice([("k",), ("k",), ("k",), ("k", "p"), ("ktog", "yo"), ()])
                ends = [chance.choice([(), (), (), ("k",), ("p", "p"), ("ktog",), ("yo",)]) for _ in range(2)]
                texts.append(Rested(USUAL, ends[0], repeated, ends[1]))
        rows.append(RowText(*texts))
    return rows


def drawn_schedule(chance, names, sections):
    deed = chance.choice([("ktog",), ("ssk",), ("bo",), ("bo", "bo"), ("ktog", "k"), ("yo",), ("k",), ("ktog",), ("ssk",),
                          drawn_word(chance, names, 2) + ("p",)])
    ending = {"until": chance.randint(0, 12)} if chance.random() < 0.4 else {
        "times": (chance.randint(-3, 6), chance.choice([0, 0, 1, 2]))}
    return Schedule(chance.randrange(sections), chance.choice(["right", "left"]), deed, chance.randint(0, 5),
                    chance.choice([1, 1, 2, 2, 3, 4, 5]), **ending)


def drawn_along(chance, names, sections):
    """An ALONG with one to three schedules."""
    while True:
        base = drawn_base(chance, names, sections)
        schedules = [drawn_schedule(chance, names, sections) for _ in range(chance.randint(1, 3))]
        seen = [told.section for told in schedules if told.until is not None]
        rows = None if chance.random() < 0.7 else (chance.randint(-2, 12), chance.choice([0, 1, 3]))
        if len(set(seen)) == len(seen):
            try:
                return Along(base, schedules, rows=rows)
            except TooMany:
                continue


def drawn_sketch(chance, steps=3, sections=3, loops=20):
    """A sketch of some steps, in the round or flat."""
    way = chance.choice(["round", "right", "wrong"])
    names = ROUND if way == "round" else FLAT
    many = chance.randint(1, sections)
    cast_on = [(chance.randint(0, loops), chance.randint(0, 3)) for _ in range(many)]
    told = []
    alongs = 0
    for _ in range(chance.randint(1, steps)):
        sort = chance.choice([0, 1, 2, 3, 4, 5, 5, 5, 5])
        if sort == 0 and many < 6:
            told.append(Cut(chance.randrange(many), chance.choice(["right", "left"]), chance.randint(0, 6)))
            many += 1
        elif sort == 1 and many > 1:
            told.append(Merge(chance.randrange(many - 1)))
            many -= 1
        elif sort == 2:
            told.append(Repeat(drawn_block(chance, many, names, drawn_loose), chance.randint(0, 3)))
        elif sort == 3:
            block = drawn_block(chance, many, names, drawn_steady)
            told.append(Times(block, chance.randint(-4, 4), chance.randint(-1, 2)))
        elif sort == 4:
            block = drawn_block(chance, many, names, drawn_steady)
            told.append(Until(block, chance.randrange(many), chance.choice(["just", "at most", "at least"]),
                              chance.randint(0, 30)))
        elif alongs < 4:
            alongs += 1
            told.append(drawn_along(chance, names, many))
    return Sketch(USUAL, way, cast_on, told)
