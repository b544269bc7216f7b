"""Files: what an office keeps of one person, and takes up again when it reads of passed days."""

from duehouse.books import check_rule
from duehouse.checks import check_number
from duehouse.courses import check_office, own_due
from duehouse.errors import BadEntry, Clash, TooLate
from duehouse.rules import check_sign
from duehouse.sheets import LAST_DAY, is_entry, standing, told_names


def check_entry(course, entry):
    """Refuse what is no entry, or tells a sign or a rule that the course does not have."""
    if not is_entry(entry):
        raise BadEntry(entry)
    if entry[1] == "sign":
        check_sign(course.signs, entry[3])
    elif entry[1] == "rule":
        check_rule(course.rules, entry[3])


def is_booked(practice, difference, back):
    """Whether the practice lets this difference be booked for a day that is so many days back."""
    bound = practice["pays"] if difference > 0 else practice["asks"]
    return bound is None or back <= bound


def by_number(entries):
    """The entries of a dict from their numbers, ascending."""
    return [entries[number] for number in sorted([int(number) for number in entries])]


class File:
    """The entries that an office has read, and for each passed day its row and what is booked."""

    def __init__(self, course, office, practice):
        check_office(course.offices, office)
        self.office = office
        self.days = 0
        self.now = course.start
        self._course = course
        self._practice = practice.copy()
        # By number, in the order of reading.
        self._entries = {}
        self._signs = {}
        self._rules = {}
        self._rows = []
        self._booked = []
        self._appealed = {}
        self._reckoned = ()

    def _look_up(self):
        """Note what the standing entries tell of signs and rules."""
        rows = by_number(self._entries)
        stands = standing(rows)
        if self._practice["stands"] == "come":
            rows = list(self._entries.values())
        self._signs = told_names(rows, stands, "sign")
        self._rules = told_names(rows, stands, "rule")

    def _views(self, days):
        """The views of so many days."""
        views = []
        rule = self._course.rules[0]
        for day in range(days):
            rule = self._rules.get(day, rule)
            views.append((self._signs.get(day, self._course.signs[0]), rule))
        return views

    def _days_back(self, day):
        """How many days back the day is; below 0 for a day that is still to come."""
        return self.days - day

    def _is_heeded(self, day):
        """Whether the practice takes up a change of the sign of this passed day."""
        practice = self._practice
        if practice["heeds"] == "own" and self._rows[day][2][0] != self.office:
            return False
        return practice["term"] is None or self._days_back(day) <= practice["term"] or day in self._appealed

    def _is_cause(self, day, ahead, behind):
        """Whether the change of the view of this passed day makes it be reckoned again."""
        if ahead[1] != behind[1] and self._practice["amends"] == "back":
            return True
        return ahead[0] != behind[0] and self._is_heeded(day)

    def _row(self, seat, rule, sign):
        """The row of a day with this seat ahead of it, and the seat behind it."""
        due, behind = self._course.step(seat, rule, sign)
        return (sign, rule, seat, own_due(self.office, seat, due)), behind

    def _reckon_again(self, causes, views):
        """Reckon the causes again, and what comes of them; the days that were reckoned, ascending."""
        reckoned = []
        again = self._practice["again"]
        last_cause = None
        behind = None
        for day in range(self.days):
            if day in causes:
                last_cause = day
            _, rule, seat, _ = self._rows[day]
            goes_on = behind is not None and behind != seat
            near = last_cause is not None and (again is None or day < last_cause + again)
            if day not in causes and not (goes_on and near):
                behind = None
                continue
            if self._practice["amends"] == "back":
                rule = views[day][1]
            row, behind = self._row(seat if behind is None else behind, rule, views[day][0])
            self._rows[day] = row
            reckoned.append(day)
        if behind is not None:
            self.now = behind
        return reckoned

    def _book_differences(self, days):
        """Book what these days lack or have too much; the pairs (day, difference) booked."""
        pairs = []
        for day in days:
            difference = self._rows[day][3] - self._booked[day]
            if difference != 0 and is_booked(self._practice, difference, self._days_back(day)):
                self._booked[day] = self._booked[day] + difference
                pairs.append((day, difference))
        return pairs

    def pass_day(self):
        """A day passes; what is booked for it."""
        sign, rule = self._views(self.days + 1)[self.days]
        row, behind = self._row(self.now, rule, sign)
        self._rows.append(row)
        self._booked.append(row[3])
        self.now = behind
        self.days = self.days + 1
        return row[3]

    def read(self, entry):
        """Read an entry; the pairs (day, difference) booked."""
        check_entry(self._course, entry)
        held = self._entries.get(entry[0])
        if held is not None and held != entry:
            raise Clash(entry[0])
        self._reckoned = ()
        if held is not None:
            return []
        ahead = self._views(self.days)
        self._entries[entry[0]] = entry
        self._look_up()
        views = self._views(self.days)
        causes = {day: True for day in range(self.days) if self._is_cause(day, ahead[day], views[day])}
        reckoned = self._reckon_again(causes, views)
        self._reckoned = tuple(reckoned)
        return self._book_differences(reckoned)

    def appeal(self, day):
        """Appeal a day: late changes of its sign are heeded whatever the term."""
        check_number("day", day, 0, LAST_DAY)
        term = self._practice["term"]
        if term is not None and self._days_back(day) > term:
            raise TooLate(day)
        self._appealed[day] = True

    def row(self, day):
        """The tuple (sign, rule, seat, due) of a passed day."""
        check_number("day", day, 0, self.days - 1)
        return self._rows[day]

    def booked(self, day):
        """What is booked for a passed day."""
        check_number("day", day, 0, self.days - 1)
        return self._booked[day]

    def total(self):
        """The sum of all that is booked."""
        return sum(self._booked)

    def entries(self):
        """The entries of the sheet, ascending."""
        return by_number(self._entries)

    def view(self, day):
        """The sign and the rule of a day by the sheet."""
        check_number("day", day, 0, LAST_DAY)
        return self._views(day + 1)[day]

    def reckoned(self):
        """The days reckoned again when an entry was read last, as an ascending tuple."""
        return self._reckoned

    def copy(self):
        """A new file in the same state."""
        twin = File(self._course, self.office, self._practice)
        twin.days = self.days
        twin.now = self.now
        twin._entries = {number: self._entries[number] for number in self._entries}
        twin._signs = {day: self._signs[day] for day in self._signs}
        twin._rules = {day: self._rules[day] for day in self._rules}
        twin._rows = list(self._rows)
        twin._booked = list(self._booked)
        twin._appealed = {day: True for day in self._appealed}
        twin._reckoned = self._reckoned
        return twin
