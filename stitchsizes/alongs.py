"""How an ALONG is worked at all sizes of a stretch at once: it becomes steps of a pattern.

Rows are worked one by one until nothing has ended for two periods. A period is as many rows as it takes until the base,
the schedules that go on and the KEPT texts begin anew; so its rows are a block of TIMES. How often it is worked until
something ends next is reckoned.
"""

from math import gcd, lcm

from stitchsizes.lines import line_gap, line_sum, raised, scaled
from stitchsizes.patterns import Repeat, Times, Until
from stitchsizes.rows import RowText
from stitchsizes.sections import Kept, Rested
from stitchsizes.stages import behind_row, numbers_of_row

_MOST_ROWS = 240
_QUIET_PERIODS = 2


class AlongPlan:
    """An ALONG that is ready to be worked: what its deeds take and make, and the row texts that were made of it."""

    def __init__(self, along):
        book = along.base[0].book
        self.along = along
        self.taking = [book.taken(schedule.deed) for schedule in along.schedules]
        self.making = [book.made(schedule.deed) for schedule in along.schedules]
        self.turns = [_turn_of(along.base, section) for section in range(len(along.base[0]))]
        self.made_rows = {}

    def row_text(self, index, working, moved):
        """The row text of a row of the base with the deeds of some schedules, and the numbers of its texts.

        The loops moved are told for each section: by so many the KEPT texts are shifted.
        """
        shifts = [loops % turn for loops, turn in zip(moved, self.turns)]
        key = (index, tuple(working), tuple(shifts))
        if key not in self.made_rows:
            base = self.along.base[index].texts
            texts = [self._text_with_deeds(text, section, working, shifts[section])
                     for section, text in enumerate(base)]
            row = RowText(*texts)
            self.made_rows[key] = (row, numbers_of_row(row))
        return self.made_rows[key]

    def _text_with_deeds(self, text, section, working, moved):
        schedules = [self.along.schedules[place] for place in working]
        here = [schedule for schedule in schedules if schedule.section == section]
        ahead = ()
        behind = ()
        for schedule in here:
            if schedule.edge == "right":
                ahead = ahead + schedule.deed
            else:
                behind = schedule.deed + behind
        if isinstance(text, Kept):
            shift = (text.shift + moved + text.book.taken(ahead)) % len(text.repeated)
            return Kept(text.book, ahead, text.repeated, behind, shift=shift)
        return Rested(text.book, ahead + text.before, text.repeated, text.after + behind)

    def period_of(self, going):
        """After how many rows everything begins anew while just these schedules go on."""
        rows = len(self.along.base)
        for place in going:
            rows = lcm(rows, self.along.schedules[place].every)
        turns = 1
        for row in self.along.base:
            for section, text in enumerate(row.texts):
                if isinstance(text, Kept):
                    length = len(text.repeated)
                    turns = lcm(turns, length // gcd(length, self._moved_in(rows, going, section)))
        return rows * turns

    def _moved_in(self, rows, going, section):
        """By how many loops a section is moved at its right edge in so many rows."""
        moved = 0
        for place in going:
            schedule = self.along.schedules[place]
            if schedule.section == section and schedule.edge == "right":
                moved = moved + (self.taking[place] - self.making[place]) * (rows // schedule.every)
        return moved


class AlongWork:
    """An ALONG while it is worked on a stretch.

    It has the counts ahead of the next row (now), and the number of this row, both as lines; the loops moved so far in
    each section; the rows ahead of which the schedules with times have ended; the places of the schedules that go on,
    the row in which the last of them begins, and their period; how many rows were worked since then without an end
    (quiet); the rows that are not in a step yet (waiting), as tuples (row text, its numbers, counts ahead of it); the
    steps that were done, and the ending: None, "through", "fails" or "endless".
    """

    def __init__(self, plan, stretch, counts):
        self.plan = plan
        self.stretch = stretch
        self.now = counts
        self.number = (0, 0)
        self.moved = [0] * len(counts)
        self.ends = [self._end_of(schedule) for schedule in plan.along.schedules]
        self.going = list(range(len(plan.along.schedules)))
        self.begun = 0
        self.period = 0
        self.quiet = 0
        self._go_on_with(self.going)
        self.waiting = []
        self.done = []
        self.ending = None

    def work_row(self):
        """Works the next row, if there is one and it fits."""
        if self._is_at_limit():
            self.ending = "through"
            return
        self._end_schedules()
        if self.plan.along.rows is None and not self.going:
            self.ending = "through"
            return
        working = [place for place in self.going if self._meets(place, self.number[0])]
        row, numbers = self.plan.row_text(self.number[0] % len(self.plan.along.base), working, self.moved)
        self.waiting.append((row, numbers, self.now))
        behind, section = behind_row(numbers, self.stretch, self.now)
        if section is not None:
            self.ending = "fails"
            return
        self._move(working)
        self.now = behind
        if self.number[0] >= self.begun:
            self.quiet += 1
        self.number = raised(self.number, 1)

    def is_quiet(self):
        """Whether nothing has ended for so long that whole periods can be worked at once."""
        return self.ending is None and self.quiet == _QUIET_PERIODS * self.period

    def work_periods(self):
        """Works all the periods in which nothing ends."""
        block = self.waiting[-self.period:]
        self.waiting = self.waiting[:-_QUIET_PERIODS * self.period]
        self.end_rows()
        self.quiet = 0
        rows = [row for row, _, _ in block]
        changes = [after[0] - before[0] for after, before in zip(self.now, block[0][2])]
        bounds = self._bounds(block, changes)
        if not bounds:
            self._go_on_for_ever(rows, changes)
            return
        many = min(bounds)
        for bound in bounds:
            self.stretch.reaches(line_gap(bound, many))
        self.done.append(Times(rows, many[0] + _QUIET_PERIODS, many[1]))
        if self._is_short(block, changes, many):
            self.ending = "fails"
            return
        self.now = tuple([line_sum(loops, scaled(many, change)) for loops, change in zip(self.now, changes)])
        self.number = line_sum(self.number, scaled(many, self.period))

    def end_rows(self):
        """Puts the rows that are waiting into steps."""
        rows = [row for row, _, _ in self.waiting]
        for first in range(0, len(rows), _MOST_ROWS):
            self.done.append(Repeat(rows[first:first + _MOST_ROWS], 1))
        self.waiting = []

    def _is_at_limit(self):
        limit = self.plan.along.rows
        return limit is not None and self.stretch.reaches(line_gap(self.number, self._of_size(limit)))

    def _of_size(self, numbers):
        p, q = numbers
        return self.stretch.of_size(p, q)

    def _end_schedules(self):
        """Leaves out the schedules that have ended ahead of the next row."""
        left = [place for place in self.going if not self._has_ended(place)]
        if len(left) < len(self.going):
            self._go_on_with(left)

    def _go_on_with(self, going):
        """Makes these schedules the ones that go on."""
        self.going = going
        self.begun = max([0] + [self.plan.along.schedules[place].first for place in going])
        self.period = self.plan.period_of(going)
        self.quiet = 0

    def _has_ended(self, place):
        schedule = self.plan.along.schedules[place]
        if self.ends[place] is not None:
            return self.stretch.reaches(line_gap(self.number, self.ends[place]))
        if not self._meets(place, self.number[0]):
            return False
        return self.stretch.reaches(raised(scaled(self.now[schedule.section], -1), schedule.until))

    def _end_of(self, schedule):
        """The number of the first row ahead of which a schedule has ended, None if it is not told by times."""
        if schedule.times is None:
            return None
        last = raised(self._of_size(schedule.times), -1)
        if not self.stretch.reaches(last):
            return (0, 0)
        return raised(scaled(last, schedule.every), schedule.first + 1)

    def _meets(self, place, number):
        schedule = self.plan.along.schedules[place]
        return number >= schedule.first and (number - schedule.first) % schedule.every == 0

    def _move(self, working):
        for place in working:
            schedule = self.plan.along.schedules[place]
            if schedule.edge == "right":
                more = self.plan.taking[place] - self.plan.making[place]
                self.moved[schedule.section] = self.moved[schedule.section] + more

    def _bounds(self, block, changes):
        """For all that can end the lines of how many whole periods are worked before it does."""
        ends = [self.ends[place] for place in self.going if self.ends[place] is not None]
        if self.plan.along.rows is not None:
            ends.append(self._of_size(self.plan.along.rows))
        bounds = [self.stretch.quotient(line_gap(end, self.number), self.period) for end in ends]
        for place in self.going:
            schedule = self.plan.along.schedules[place]
            if schedule.until is not None and changes[schedule.section] < 0:
                first = self.number[0] - self.period
                lowest = min([counts[schedule.section] for at, (_, _, counts) in enumerate(block)
                              if self._meets(place, first + at)])
                over = raised(lowest, -1 - schedule.until)
                bounds.append(self.stretch.quotient(over, -changes[schedule.section]))
        return bounds

    def _is_short(self, block, changes, many):
        """Whether some text lacks loops in one of so many periods more."""
        for _, numbers, counts in block:
            for section, change in enumerate(changes):
                over = raised(line_sum(counts[section], scaled(many, change)), -numbers[section][0])
                if change < 0 and not self.stretch.reaches(over):
                    return True
        return False

    def _go_on_for_ever(self, rows, changes):
        """Ends with steps that fail some time, if loops become fewer, or never end."""
        less = [section for section, change in enumerate(changes) if change < 0]
        if less:
            most = self.now[less[0]]
            self.done.append(Times(rows, most[0] + _QUIET_PERIODS + 1, most[1]))
            self.ending = "fails"
            return
        self.done.append(Times(rows, _QUIET_PERIODS, 0))
        # The loops of section 0 stay at 0, or above it.
        if self.stretch.reaches(raised(self.now[0], -1)):
            self.done.append(Until(rows, 0, "at most", 0))
        else:
            self.done.append(Until(rows, 0, "at least", 1))
        self.ending = "endless"


def _turn_of(base, section):
    """After how many loops all KEPT texts of a section of the base begin anew."""
    turn = 1
    for row in base:
        text = row.texts[section]
        turn = lcm(turn, len(text.repeated)) if isinstance(text, Kept) else turn
    return turn


def along_steps(plan, stretch, counts):
    """The steps that an ALONG becomes, how it ends ("through", "fails" or "endless"), and the counts behind it."""
    work = AlongWork(plan, stretch, counts)
    while work.ending is None:
        work.work_row()
        if work.is_quiet():
            work.work_periods()
    work.end_rows()
    return (work.done, work.ending, work.now)
