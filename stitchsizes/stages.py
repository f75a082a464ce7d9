"""How the steps of a pattern are worked at all sizes of a stretch at once, without going through all rounds.

Counts, rounds and numbers of rows are lines over the k of the stretch. A step that is worked on is kept READY, as a
tuple (step, table, is level): the TABLE has for each row of the block, and in it for each section, the numbers
(first, step, made_first, made_step) of its text; a block is level if each round changes a count by the same number.

An OUTCOME has lines for its numbers: ("through", rows, counts), ("fails", row, step, round, index, section, loops) and
("endless", step). If it is not asked for fully, it can be ("fails",) alone.
"""

from stitchsizes.blocks import slopes_cancel
from stitchsizes.lines import line_gap, line_sum, raised, scaled, value_at
from stitchsizes.patterns import Cut, Merge, Repeat, Until

# From the third round on, only a lack of loops can be new.
_KNOWN_LAPS = 2


class Stage:
    """Rounds of a block that are worked one after the other.

    It tells the number of its step, with which round of the step it begins (since) and with which row of the work
    (begin), the row texts, the counts ahead of each row of the first round (ahead), by how much they change in each
    next round (changes), and the number of rounds; None if they go on for ever or break off.
    """

    def __init__(self, number, since, begin, row_texts, laps, rounds):
        self.number = number
        self.since = since
        self.begin = begin
        self.row_texts = row_texts
        self.ahead = laps[0]
        self.changes = _changes_of(laps)
        self.rounds = rounds

    def counts_at(self, times, index):
        """The counts ahead of a row of a round, which is a line."""
        counts = self.ahead[index]
        return tuple([line_sum(loops, scaled(times, change)) for loops, change in zip(counts, self.changes[index])])


def prepared(steps):
    """The steps, ready to be worked."""
    return [_with_table(step) for step in steps]


def numbers_of_row(row):
    """The numbers of the texts of a row."""
    return [text.counts() + text.made_counts() for text in row.texts]


def worked(ready, cast_on, stretch, fully):
    """The stages of some ready steps, the outcome, and the counts with which the work stops, None if there are none.
    """
    counts = tuple([stretch.of_size(p, q) for p, q in cast_on])
    row = (0, 0)
    stages = []
    for number, step in enumerate(ready):
        found, row, counts, outcome = worked_step(number, step, stretch, row, counts, fully)
        stages.extend(found)
        if outcome is not None:
            return (stages, outcome, counts)
    return (stages, ("through", row, counts), counts)


def worked_step(number, ready, stretch, row, counts, fully):
    """The stages of a step, the number of the row behind it, the counts behind it, and None; or, if the work stops in
    it, the outcome."""
    step, table, is_level = ready
    if isinstance(step, Cut):
        return _worked_cut(number, step, stretch, row, counts)
    if isinstance(step, Merge):
        both = line_sum(counts[step.section], counts[step.section + 1])
        return ([], row, counts[:step.section] + (both,) + counts[step.section + 2:], None)
    if is_level:
        return _worked_level(number, step, table, stretch, row, counts, fully)
    return _worked_one_by_one(number, step, table, stretch, row, counts)


def outcome_told(outcome, k):
    """The outcome at one of the sizes."""
    if outcome[0] == "through":
        return ("through", value_at(outcome[1], k), tuple([value_at(loops, k) for loops in outcome[2]]))
    if outcome[0] == "fails":
        word, row, step, times, index, section, loops = outcome
        return (word, value_at(row, k), step, value_at(times, k), index, section, value_at(loops, k))
    return outcome


def behind_row(numbers, stretch, counts):
    """The counts behind a row, and None; or None, and the first section that does not fit."""
    made = []
    for section, told in enumerate(numbers):
        line = _behind_text(told, stretch, counts[section])
        if line is None:
            return (None, section)
        made.append(line)
    return (tuple(made), None)


def _behind_text(numbers, stretch, loops):
    """The loops behind a text, or None if it does not fit."""
    first, step, made_first, made_step = numbers
    over = raised(loops, -first)
    if step == 0:
        return (made_first, 0) if stretch.is_zero(over) else None
    if not stretch.reaches(over) or stretch.remainder(over, step) != 0:
        return None
    return raised(scaled(stretch.quotient(over, step), made_step), made_first)


def _with_table(step):
    if isinstance(step, (Cut, Merge)):
        return (step, None, False)
    return (step, [numbers_of_row(row) for row in step.block], slopes_cancel(step.block))


def _changes_of(laps):
    """By how much the counts ahead of each row change from the first round to the second one."""
    changes = []
    for index, counts in enumerate(laps[0]):
        later = laps[1][index] if len(laps) > 1 and index < len(laps[1]) else counts
        changes.append(tuple([after[0] - loops[0] for after, loops in zip(later, counts)]))
    return changes


def _worked_cut(number, step, stretch, row, counts):
    section = step.section
    rest = raised(counts[section], -step.loops)
    if not stretch.reaches(rest):
        return ([], row, counts, ("fails", row, number, (0, 0), 0, section, counts[section]))
    new = (step.loops, 0)
    both = (new, rest) if step.edge == "right" else (rest, new)
    return ([], row, counts[:section] + both + counts[section + 1:], None)


def _worked_one_by_one(number, step, table, stretch, row, counts):
    """As worked_step, for a block whose rounds do not change the counts by the same numbers."""
    stages = []
    for since in range(step.times):
        lap, behind, section = _worked_round(table, stretch, counts)
        stages.append(Stage(number, since, row, step.block, [lap], (1, 0)))
        if section is not None:
            index = len(lap) - 1
            return (stages, row, lap[index], _failed(number, row, table, (since, 0), since, lap, section))
        row = raised(row, len(table))
        counts = behind
    return (stages, row, counts, None)


def _failed(number, begin, table, times, since, lap, section):
    """The outcome of a round that fails in the last row of its lap, in a stage that begins with a round and a row."""
    index = len(lap) - 1
    row = raised(line_sum(begin, scaled(raised(times, -since), len(table))), index)
    return ("fails", row, number, times, index, section, lap[index][section])


def _worked_round(table, stretch, counts):
    """The counts ahead of each row of a round, those behind it, and None; if it fails, those ahead of the rows up to
    the one that fails, None, and the section."""
    lap = []
    for numbers in table:
        lap.append(counts)
        counts, section = behind_row(numbers, stretch, counts)
        if section is not None:
            return (lap, None, section)
    return (lap, counts, None)


def _worked_level(number, step, table, stretch, row, counts, fully):
    """As worked_step, for a level block: only the first rounds are worked one by one."""
    rounds = None if isinstance(step, Until) else _rounds_of(step, stretch)
    laps = []
    while len(laps) < _KNOWN_LAPS and not _is_over(step, rounds, len(laps), counts, stretch):
        lap, behind, section = _worked_round(table, stretch, counts)
        laps.append(lap)
        if section is not None:
            times = (len(laps) - 1, 0)
            stage = Stage(number, 0, row, step.block, laps, None)
            return ([stage], row, lap[-1], _failed(number, row, table, times, 0, lap, section))
        counts = behind
    if len(laps) == _KNOWN_LAPS and not _is_over(step, rounds, len(laps), counts, stretch):
        return _worked_far(Stage(number, 0, row, step.block, laps, rounds), step, table, stretch, fully)
    stages = [Stage(number, 0, row, step.block, laps, (len(laps), 0))] if laps else []
    return (stages, raised(row, len(laps) * len(table)), counts, None)


def _rounds_of(step, stretch):
    """The number of rounds of a step that does not look at the loops."""
    return (step.times, 0) if isinstance(step, Repeat) else stretch.of_size(step.p, step.q)


def _is_over(step, rounds, number, counts, stretch):
    """Whether a step with a level block ends ahead of a round."""
    if rounds is not None:
        return not stretch.reaches(raised(rounds, -1 - number))
    over = raised(counts[step.section], -step.loops)
    if step.way == "just":
        return stretch.is_zero(over)
    return stretch.reaches(over if step.way == "at least" else scaled(over, -1))


def _worked_far(stage, step, table, stretch, fully):
    """As worked_step, for a stage that has not ended ahead of the third round."""
    if isinstance(step, Until):
        stage.rounds = _ending_round(step, stage, stretch)
    lacks = _lacks_of(stage, table)
    if stage.rounds is not None and not _is_short(lacks, stage.rounds, stretch):
        row = line_sum(stage.begin, scaled(stage.rounds, len(table)))
        return ([stage], row, stage.counts_at(stage.rounds, 0), None)
    stage.rounds = None
    if not lacks:
        return ([stage], stage.begin, None, ("endless", stage.number))
    if not fully:
        return ([stage], stage.begin, None, ("fails",))
    times, index, section = _first_lack(lacks, stretch)
    counts = stage.counts_at(times, index)
    row = raised(line_sum(stage.begin, scaled(times, len(table))), index)
    return ([stage], stage.begin, counts, ("fails", row, stage.number, times, index, section, counts[section]))


def _ending_round(step, stage, stretch):
    """The round ahead of which an UNTIL ends that has not ended ahead of the first ones, or None."""
    over = raised(stage.ahead[0][step.section], -step.loops)
    change = stage.changes[0][step.section]
    if change == 0:
        return None
    if step.way == "just":
        if stretch.reaches(over) == (change > 0) or stretch.remainder(over, abs(change)) != 0:
            return None
    elif (step.way == "at most") != (change < 0):
        return None
    # The number of rounds is the amount that is missing divided by that of the change, rounded up.
    short = over if change > 0 else scaled(over, -1)
    return scaled(stretch.quotient(short, abs(change)), -1)


def _lacks_of(stage, table):
    """For each text whose loops become fewer a tuple (loops that are over in the first round, drop, index, section)."""
    lacks = []
    for index, numbers in enumerate(table):
        for section, change in enumerate(stage.changes[index]):
            if change < 0:
                lacks.append((raised(stage.ahead[index][section], -numbers[section][0]), -change, index, section))
    return lacks


def _is_short(lacks, rounds, stretch):
    """Whether some text lacks loops in one of so many rounds; then it does so in the last one."""
    for over, drop, _, _ in lacks:
        if not stretch.reaches(line_gap(over, scaled(raised(rounds, -1), drop))):
            return True
    return False


def _first_lack(lacks, stretch):
    """Where loops are lacking first, as a tuple (round, index, section)."""
    _, index, section, over, drop = min([(over[0] // drop, index, section, over, drop)
                                         for over, drop, index, section in lacks])
    last = stretch.quotient(over, drop)
    for others, fall, row, place in lacks:
        # Another text must not be the first one: what stands ahead of this text has to fit for one round more.
        least = raised(last, 1) if (row, place) < (index, section) else last
        stretch.reaches(line_gap(others, scaled(least, fall)))
    return (raised(last, 1), index, section)
