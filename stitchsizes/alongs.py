"""How an ALONG is worked at all sizes of a stretch at once: it becomes steps of a pattern.

When all schedules that go on have begun, the rows of a period are a block of TIMES, and how often it is worked until
something ends is reckoned. The rows of the period in which something ends are worked one by one.
"""

from stitchsizes.lines import line_gap, line_sum, raised, scaled
from stitchsizes.patterns import Repeat, Times, Until
from stitchsizes.stages import behind_row

_MOST_ROWS = 240


class AlongWork:
    """An ALONG while it is worked on a stretch.

    It has the counts ahead of the next row (now), and the number of this row, both as lines; the loops moved so far in
    each section; the rows ahead of which the schedules with times have ended (ends); the places of the schedules that
    go on, and whether their periods are still to be worked; the row texts that are not in a step yet (waiting), the
    steps that were done, and the ending: None, "through", or "stops" if the last one of them fails or never ends.
    """

    def __init__(self, plan, stretch, counts):
        self.plan = plan
        self.stretch = stretch
        self.now = counts
        self.number = (0, 0)
        self.moved = [0] * len(counts)
        self.ends = [self._end_of(schedule) for schedule in plan.along.schedules]
        self.going = list(range(len(plan.along.schedules)))
        self.has_periods = True
        self.waiting = []
        self.done = []
        self.ending = None

    def end_what_ends(self):
        """Ends the schedules that have ended ahead of the next row, and the ALONG if this row is not worked."""
        limit = self.plan.along.rows
        if limit is not None and self.stretch.reaches(line_gap(self.number, self._of_size(limit))):
            self.ending = "through"
            return
        left = [place for place in self.going if not self._has_ended(place)]
        if len(left) < len(self.going):
            self.going = left
            self.has_periods = True
        if limit is None and not left:
            self.ending = "through"

    def can_work_periods(self):
        """Whether all schedules that go on have begun, and their periods are still to be worked."""
        begun = [self.plan.along.schedules[place].first <= self.number[0] for place in self.going]
        return self.has_periods and all(begun)

    def work_row(self):
        """Works the next row, if it fits."""
        number = self.number[0]
        working = [place for place in self.going if self.plan.meets(place, number)]
        row, numbers = self.plan.row_text(number, working, self.moved)
        self.waiting.append(row)
        behind, section = behind_row(numbers, self.stretch, self.now)
        if section is not None:
            self.ending = "stops"
            return
        self.moved = self.plan.moved_behind(working, self.moved)
        self.now = behind
        self.number = raised(self.number, 1)

    def work_periods(self):
        """Works all the periods in which nothing ends."""
        self.has_periods = False
        table = self.plan.table_of(self.going, self.number[0], self.moved)
        many = self._quiet_periods(table)
        if many is None:
            self._go_on_for_ever(table)
            return
        if not self.stretch.reaches(raised(many, -1)):
            return
        self._put_times(table, many)
        if not self._fits(table, many):
            self.ending = "stops"
            return
        self.now = tuple([line_sum(loops, scaled(many, change)) for loops, change in zip(self.now, table.changes)])
        self.number = line_sum(self.number, scaled(many, len(table.texts_in_line)))

    def end_rows(self):
        """Puts the rows that are waiting into steps."""
        for first in range(0, len(self.waiting), _MOST_ROWS):
            self.done.append(Repeat(self.waiting[first:first + _MOST_ROWS], 1))
        self.waiting = []

    def _put_times(self, table, many):
        """Puts a step behind the others in which a period is worked as often as a line says."""
        self.end_rows()
        self.done.append(Times(table.texts_in_line, many[0], many[1]))

    def _of_size(self, numbers):
        p, q = numbers
        return self.stretch.of_size(p, q)

    def _end_of(self, schedule):
        """The number of the first row ahead of which a schedule has ended, None if it is not told by times."""
        if schedule.times is None:
            return None
        last = raised(self._of_size(schedule.times), -1)
        if not self.stretch.reaches(last):
            return (0, 0)
        return raised(scaled(last, schedule.every), schedule.first + 1)

    def _has_ended(self, place):
        if self.ends[place] is not None:
            return self.stretch.reaches(line_gap(self.number, self.ends[place]))
        schedule = self.plan.along.schedules[place]
        if not self.plan.meets(place, self.number[0]):
            return False
        return not self.stretch.reaches(raised(self.now[schedule.section], -1 - schedule.until))

    def _quiet_periods(self, table):
        """The line of how many whole periods are worked before something ends, None if nothing does."""
        many = None
        ends = [self.ends[place] for place in self.going if self.ends[place] is not None]
        if self.plan.along.rows is not None:
            ends.append(self._of_size(self.plan.along.rows))
        if ends:
            least = min(ends)
            for end in ends:
                self.stretch.reaches(line_gap(end, least))
            rows = line_gap(least, self.number)
            # Quotients divide the stretch, so they are not asked for where they are known to be 0 or not the least.
            if not self.stretch.reaches(raised(rows, -len(table.texts_in_line))):
                return (0, 0)
            many = self.stretch.quotient(rows, len(table.texts_in_line))
        for place in self.going:
            schedule = self.plan.along.schedules[place]
            if schedule.until is not None:
                change = table.changes[schedule.section]
                over = raised(self.now[schedule.section], table.lows[place] - 1 - schedule.until)
                if not self.stretch.reaches(over):
                    return (0, 0)
                if change < 0 and (many is None or not self.stretch.reaches(_worked_on(over, change, many))):
                    many = raised(self.stretch.quotient(over, -change), 1)
        return many

    def _fits(self, table, many):
        """Whether all texts fit in so many periods, at least one."""
        if not self._fits_first(table):
            return False
        for loops, need, change in zip(self.now, table.needs, table.changes):
            if change < 0 and not self.stretch.reaches(_worked_on(raised(loops, -need), change, many)):
                return False
        return table.repeats() or not self.stretch.reaches(raised(many, -2))

    def _fits_first(self, table):
        """Whether all texts fit in the first period."""
        for loops, need in zip(self.now, table.needs):
            if not self.stretch.reaches(raised(loops, -need)):
                return False
        for section, step, rest in table.rests:
            if self.stretch.remainder(self.now[section], step) != rest:
                return False
        for section, loops in table.exact:
            if not self.stretch.is_zero(raised(self.now[section], -loops)):
                return False
        return True

    def _go_on_for_ever(self, table):
        """Stops with steps that fail, if some text does not fit some time, or never end."""
        self.ending = "stops"
        less = [loops for loops, change in zip(self.now, table.changes) if change < 0]
        if less:
            # A section that has fewer loops in each period lacks some ahead of this one.
            self._put_times(table, raised(less[0], 1))
            return
        self._put_times(table, (1, 0))
        # Behind a period the loops of section 0 stay at 0, or above it.
        if self.stretch.reaches(raised(self.now[0], table.changes[0] - 1)):
            self.done.append(Until(table.texts_in_line, 0, "at most", 0))
        else:
            self.done.append(Until(table.texts_in_line, 0, "at least", 1))


def _worked_on(loops, change, many):
    """The loops ahead of the last one of so many periods, each of which changes them by a number."""
    return line_sum(loops, scaled(raised(many, -1), change))


def along_steps(plan, stretch, counts):
    """The steps that an ALONG becomes, how it ends ("through" or "stops"), and the counts behind it."""
    work = AlongWork(plan, stretch, counts)
    work.end_what_ends()
    while work.ending is None:
        if work.can_work_periods():
            work.work_periods()
        else:
            work.work_row()
        if work.ending is None:
            work.end_what_ends()
    work.end_rows()
    return (work.done, work.ending, work.now)
