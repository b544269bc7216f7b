"""Houses: a course whose offices have practices, purses and ways, and bounds for what is told late."""

from duehouse.checks import check_number
from duehouse.courses import check_office
from duehouse.ordering import ascending
from duehouse.practices import Practice
from duehouse.purses import Purse
from duehouse.ways import Ways

MOST_BOUND = 3


def check_keys(offices, told):
    """Refuse a dict with a key that is none of the offices."""
    for office in ascending(list(told)):
        check_office(offices, office)


def check_bound(word, bound):
    """Refuse, by this word, what is no bound."""
    if bound is not None:
        check_number(word, bound, 0, MOST_BOUND)


class House:
    """A course with a practice and the marks of a purse for each office, ways, and two bounds."""

    def __init__(self, course, *, practices=None, purses=None, ways=None, late=None, reach=None):
        told = {} if practices is None else practices
        told_purses = {} if purses is None else purses
        check_keys(course.offices, told)
        check_keys(course.offices, told_purses)
        self._ways = Ways.all_of(course.offices) if ways is None else Ways(course.offices, ways)
        check_bound("late", late)
        check_bound("reach", reach)
        self.course = course
        self.late = late
        self.reach = reach
        self._practices = {}
        self._purses = {}
        for office in course.offices:
            self._practices[office] = told[office].copy() if office in told else Practice()
            self._purses[office] = told_purses[office].empty_copy() if office in told_purses else Purse()

    def practice(self, office):
        """A copy of the practice of the office."""
        check_office(self.course.offices, office)
        return self._practices[office].copy()

    def purse(self, office):
        """A new purse with the marks of the office."""
        check_office(self.course.offices, office)
        return self._purses[office].empty_copy()

    def ways(self):
        """A copy of the ways."""
        return self._ways.copy()

    def _changed(self, practices, ways, late, reach):
        """A new house with the course and the purses of this one."""
        pairs = list(ways)
        return House(self.course, practices=practices, purses=self._purses, ways=pairs, late=late, reach=reach)

    def with_mark(self, office, word, value):
        """A new house with this mark of the practice of the office."""
        practice = self.practice(office)
        practice[word] = value
        practices = {other: self._practices[other] for other in self._practices}
        practices[office] = practice
        return self._changed(practices, self._ways, self.late, self.reach)

    def with_way(self, writer, reader):
        """A new house with this way, too."""
        ways = self._ways.copy()
        ways.begin(writer, reader)
        return self._changed(self._practices, ways, self.late, self.reach)

    def with_bounds(self, late, reach):
        """A new house with these bounds."""
        return self._changed(self._practices, self._ways, late, reach)
