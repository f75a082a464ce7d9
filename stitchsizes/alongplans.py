"""ALONGs that are ready to be worked: their row texts with the deeds in them, and tables of their periods.

A PERIOD is as many rows as it takes until the base, the schedules that go on and the KEPT texts begin anew. Each row
text changes the loops of a section by the same number, whatever their number is, since all slopes are 1.
"""

from math import gcd, lcm

from stitchsizes.rows import RowText
from stitchsizes.sections import Kept, Rested
from stitchsizes.stages import numbers_of_row


class PeriodTable:
    """What a period does, told by the loops of the sections ahead of its first row.

    It has the row texts (texts_in_line); by how much each section changes (changes); how many loops each one needs at
    least, so that none lacks in any row (needs); the tuples (section, step, rest) of what has to be left of the loops
    divided by a step (rests); the tuples (section, loops) where they have to be just so many (exact); and for each
    place of a schedule by how much the loops differ at the least in the rows that it meets (lows).
    """

    def __init__(self, sections):
        self.texts_in_line = []
        self.changes = [0] * sections
        self.needs = [0] * sections
        self.rests = {}
        self.exact = {}
        self.lows = {}

    def put_row(self, row, numbers):
        """Puts a row text with its numbers behind the others."""
        self.texts_in_line.append(row)
        for section, (first, step, made_first, _) in enumerate(numbers):
            least = first - self.changes[section]
            self.needs[section] = max(self.needs[section], least)
            if step == 0:
                self.exact[(section, least)] = True
            elif step > 1:
                self.rests[(section, step, least % step)] = True
            self.changes[section] = self.changes[section] + made_first - first

    def put_meeting(self, place, section):
        """Tells that the next row is met by the schedule with a place."""
        low = self.changes[section]
        self.lows[place] = min(low, self.lows.get(place, low))

    def repeats(self):
        """Whether the loops that fit in one period fit in the next one, too, as long as there are enough of them."""
        moving = [section for section, _ in self.exact if self.changes[section] != 0]
        unlike = [section for section, step, _ in self.rests if self.changes[section] % step != 0]
        return not moving and not unlike


class AlongPlan:
    """An ALONG: what its deeds take and make, and the row texts and tables that were made of it so far."""

    def __init__(self, along):
        book = along.base[0].book
        self.along = along
        self.taking = [book.taken(schedule.deed) for schedule in along.schedules]
        self.making = [book.made(schedule.deed) for schedule in along.schedules]
        self.turns = [_turn_of(along.base, section) for section in range(len(along.base[0]))]
        self.made_rows = {}
        self.made_tables = {}

    def meets(self, place, number):
        """Whether the schedule with a place meets a row."""
        schedule = self.along.schedules[place]
        return number >= schedule.first and (number - schedule.first) % schedule.every == 0

    def row_text(self, number, working, moved):
        """The row text of a row in which some schedules are worked, and the numbers of its texts.

        The loops moved so far are told for each section: by so many the KEPT texts are shifted.
        """
        index = number % len(self.along.base)
        shifts = [loops % turn for loops, turn in zip(moved, self.turns)]
        key = (index, tuple(working), tuple(shifts))
        if key not in self.made_rows:
            base = self.along.base[index].texts
            texts = [self._text_with_deeds(text, section, working, shifts[section])
                     for section, text in enumerate(base)]
            row = RowText(*texts)
            self.made_rows[key] = (row, numbers_of_row(row))
        return self.made_rows[key]

    def moved_behind(self, working, moved):
        """The loops moved behind a row in which some schedules are worked."""
        moved = list(moved)
        for place in working:
            schedule = self.along.schedules[place]
            if schedule.edge == "right":
                moved[schedule.section] = moved[schedule.section] + self.taking[place] - self.making[place]
        return moved

    def period_of(self, going):
        """How many rows a period has while just these schedules go on."""
        rows = len(self.along.base)
        for place in going:
            rows = lcm(rows, self.along.schedules[place].every)
        turns = 1
        for row in self.along.base:
            for section, text in enumerate(row.texts):
                if isinstance(text, Kept):
                    length = len(text.repeated)
                    turns = lcm(turns, length // gcd(length, self._moved_in(rows, going, section)))
        return rows * turns

    def table_of(self, going, number, moved):
        """The table of the period that begins with a row, while just these schedules go on."""
        period = self.period_of(going)
        shifts = [loops % turn for loops, turn in zip(moved, self.turns)]
        key = (tuple(going), number % period, tuple(shifts))
        if key not in self.made_tables:
            table = PeriodTable(len(moved))
            for row in range(number, number + period):
                working = [place for place in going if self.meets(place, row)]
                for place in working:
                    table.put_meeting(place, self.along.schedules[place].section)
                text, numbers = self.row_text(row, working, shifts)
                table.put_row(text, numbers)
                shifts = self.moved_behind(working, shifts)
            self.made_tables[key] = table
        return self.made_tables[key]

    def _text_with_deeds(self, text, section, working, moved):
        schedules = [self.along.schedules[place] for place in working]
        ahead = ()
        behind = ()
        for schedule in schedules:
            if schedule.section == section and schedule.edge == "right":
                ahead = ahead + schedule.deed
            if schedule.section == section and schedule.edge == "left":
                behind = schedule.deed + behind
        if isinstance(text, Kept):
            shift = (text.shift + moved + text.book.taken(ahead)) % len(text.repeated)
            return Kept(text.book, ahead, text.repeated, behind, shift=shift)
        return Rested(text.book, ahead + text.before, text.repeated, text.after + behind)

    def _moved_in(self, rows, going, section):
        """By how many loops a section is moved at its right edge in so many rows."""
        moved = 0
        for place in going:
            schedule = self.along.schedules[place]
            if schedule.section == section and schedule.edge == "right":
                moved = moved + (self.taking[place] - self.making[place]) * (rows // schedule.every)
        return moved


def _turn_of(base, section):
    """After how many loops all KEPT texts of a section of the base begin anew."""
    turn = 1
    for row in base:
        text = row.texts[section]
        turn = lcm(turn, len(text.repeated)) if isinstance(text, Kept) else turn
    return turn
