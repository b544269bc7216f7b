"""Harms: which marks of a house let some history end wrong."""

from duehouse.courses import check_office
from duehouse.errors import NoMark
from duehouse.spreads import rule_spread, sign_difference, sign_spread


def is_reached(many, number):
    """Whether so many days, None for endlessly many, are at least this number."""
    return many is None or many >= number


def hears_straight(house, office):
    """Whether a way leads to the office."""
    return any([reader == office for _, reader in house.ways()])


def sign_age(house, office):
    """How many days back a day can lie whose sign is changed when the change is read; None if endless."""
    check_office(house.course.offices, office)
    return None if hears_straight(house, office) else house.late


def rule_age(house, office):
    """How many days back a day can lie whose rule is changed when the change is read; None if endless."""
    check_office(house.course.offices, office)
    return None if hears_straight(house, office) else house.reach


def marks_of(house):
    """The marks of the house, office by office."""
    ways = house.ways()
    marks = []
    for office in house.course.offices:
        practice = house.practice(office)
        marks.extend([(office, word, practice[word]) for word in practice.weak()])
        heard = ways.hears(office)
        marks.extend([(office, "hears", other) for other in house.course.offices if other not in heard])
    return marks


def is_same_mark(mark, other):
    """Whether two marks are equal, a boolean being no number."""
    return mark == other and isinstance(mark, tuple) and not isinstance(mark[2], bool)


def check_house_mark(house, mark):
    """Refuse what is no mark of the house."""
    if not any([is_same_mark(mark, other) for other in marks_of(house)]):
        raise NoMark(mark)


class Outlook:
    """What the offices of a course can see, each thing being reckoned once at most.

    One spread for rule changes is enough, since it is the same whatever number of days is let: the
    reason stands in duehouse.changes.
    """

    def __init__(self, course):
        self._course = course
        self._signs = {}
        self._rules = {}
        self._foreign = {}

    def of_signs(self, office):
        """The spread for sign changes."""
        if office not in self._signs:
            self._signs[office] = sign_spread(self._course, office)
        return self._signs[office]

    def of_rules(self, office):
        """The spread for rule changes."""
        if office not in self._rules:
            self._rules[office] = rule_spread(self._course, office)
        return self._rules[office]

    def sees_foreign(self, office):
        """Whether the office sees a sign change of a day that is not in its charge."""
        if office not in self._foreign:
            found = sign_difference(self._course, office, foreign=True)
            self._foreign[office] = found is not None
        return self._foreign[office]

    def sees_any(self, office):
        """Whether the office sees any change."""
        return self.of_signs(office) is not None or self.of_rules(office) is not None


def is_cut_short(spread, age, days):
    """Whether days that are reckoned again for so many days only lack some that show the change."""
    return spread is not None and is_reached(age, days + 1) and is_reached(spread[1], days)


def is_unbooked(spread, age, days):
    """Whether the change shows on a day that can be more than so many days back."""
    return spread is not None and is_reached(age, days + 1 + spread[0])


def is_harmful_by(outlook, house, mark):
    """Whether this mark of the house is harmful."""
    office, word, value = mark
    age = sign_age(house, office)
    amended_age = rule_age(house, office)
    if word == "again":
        cut = is_cut_short(outlook.of_signs(office), age, value)
        return cut or is_cut_short(outlook.of_rules(office), amended_age, value)
    if word == "amends":
        return is_reached(amended_age, 1) and outlook.of_rules(office) is not None
    if word == "heeds":
        return is_reached(age, 1) and outlook.sees_foreign(office)
    if word == "stands":
        return hears_straight(house, office) and outlook.sees_any(office)
    if word == "term":
        return is_reached(age, value + 1) and outlook.of_signs(office) is not None
    if word == "hears":
        return outlook.sees_any(office)
    unbooked = is_unbooked(outlook.of_signs(office), age, value)
    return unbooked or is_unbooked(outlook.of_rules(office), amended_age, value)


def harmful_marks(outlook, house):
    """The harmful marks of the house, in order."""
    return [mark for mark in marks_of(house) if is_harmful_by(outlook, house, mark)]


def is_harmful(house, mark):
    """Whether the mark of the house is harmful."""
    check_house_mark(house, mark)
    return is_harmful_by(Outlook(house.course), house, mark)
