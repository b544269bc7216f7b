"""Reading: the house of a text, and the event of a line."""

from duehouse.books import MOST_RULES, Book
from duehouse.checks import MOST_NAMES, is_number
from duehouse.courses import Course
from duehouse.errors import BadLine
from duehouse.events import FORMS
from duehouse.houses import MOST_BOUND, House
from duehouse.lines import Line, number_of, says_nothing
from duehouse.practices import WORDS, Practice, weak_value_of
from duehouse.purses import MOST_CAP, MOST_UNIT, Purse
from duehouse.rulewords import taken_rule

# The first words of the lines of a house, in their order.
PARTS = ("signs", "rule", "bridge", "offices", "charge", "late", "reach", "practice", "purse", "way")
NEEDED = ("signs", "rule", "offices")
ONCE = ("signs", "offices", "late", "reach")
NAMED = ("office", "sign", "rule")


def may_follow(part, last):
    """Whether a line of this part may follow on one of the last part, None for no line."""
    if part not in PARTS:
        return False
    at = PARTS.index(part)
    first = 0 if last is None else PARTS.index(last) + (1 if last in ONCE else 0)
    return first <= at and not any([other in NEEDED for other in PARTS[first:at] if other != last])


def taken_names(line):
    """The names, 1 to 3 different ones, that are left."""
    names = [line.new_name([])]
    while line.many_left() > 0 and len(names) < MOST_NAMES:
        names.append(line.new_name(names))
    return names


def taken_other(line, names, name):
    """The next word, which is one of the names, but not this one."""
    return line.one_of([other for other in names if other != name])


def taken_entry(line, states):
    """The next word, an entry of a table: one of so many states, or None."""
    word = line.next_word()
    number = number_of(word)
    if word != "-" and not is_number(number, 0, states - 1):
        line.refuse_last()
    return number


def taken_purse_value(line, word):
    """The next word, a value for this mark of a purse other than the usual one."""
    if word == "unit":
        return line.number_within(2, MOST_UNIT)
    if word == "cap":
        return line.number_within(1, MOST_CAP)
    return line.one_of(("drop",))


class HouseText:
    """What the lines of a house have told so far."""

    def __init__(self):
        self.last = None
        self._signs = ()
        self._rules = {}
        self._tables = {}
        self._offices = ()
        self._charges = {}
        self._bounds = {"late": None, "reach": None}
        self._practices = {}
        self._purses = {}
        self._ways = {}

    def take(self, line):
        """Take a line."""
        part = line.first_word()
        if not may_follow(part, self.last):
            line.refuse_first()
        if part == "signs":
            self._signs = tuple(taken_names(line))
        elif part == "rule":
            self._take_rule(line)
        elif part == "bridge":
            self._take_bridge(line)
        elif part == "offices":
            self._offices = tuple(taken_names(line))
        elif part == "charge":
            self._take_charge(line)
        elif part == "practice":
            self._take_practice(line)
        elif part == "purse":
            self._take_purse(line)
        elif part == "way":
            self._take_way(line)
        else:
            self._bounds[part] = line.number_within(0, MOST_BOUND)
        line.no_more()
        self.last = part

    def _take_rule(self, line):
        """A rule, by its name."""
        if len(self._rules) == MOST_RULES:
            line.refuse_first()
        name = line.new_name(self._rules)
        self._rules[name] = taken_rule(line, self._signs)

    def _take_bridge(self, line):
        """A table from one rule to another."""
        old = line.one_of(self._rules)
        new = taken_other(line, self._rules, old)
        if (old, new) in self._tables:
            line.refuse_first()
        states = len(self._rules[new])
        self._tables[old, new] = tuple([taken_entry(line, states) for _ in self._rules[old].rows])

    def _take_charge(self, line):
        """The office in charge of the day behind a sign."""
        office = line.one_of(self._offices)
        sign = line.one_of(self._signs)
        if (office, sign) in self._charges:
            line.refuse_first()
        self._charges[office, sign] = line.one_of(self._offices)

    def _take_practice(self, line):
        """A weak mark of a practice."""
        office = line.one_of(self._offices)
        word = line.one_of(WORDS)
        practice = self._practices.setdefault(office, Practice())
        if word in practice.weak():
            line.refuse_first()
        value = weak_value_of(word, line.next_word())
        if value is None:
            line.refuse_last()
        practice[word] = value

    def _take_purse(self, line):
        """A mark of a purse."""
        office = line.one_of(self._offices)
        word = line.one_of(("unit", "rest", "cap", "held"))
        marks = self._purses.setdefault(office, {})
        if word in marks:
            line.refuse_first()
        marks[word] = taken_purse_value(line, word)

    def _take_way(self, line):
        """A way."""
        writer = line.one_of(self._offices)
        reader = taken_other(line, self._offices, writer)
        if (writer, reader) in self._ways:
            line.refuse_first()
        self._ways[writer, reader] = True

    def is_whole(self):
        """Whether no line lacks."""
        return self.last is not None and PARTS.index(self.last) >= PARTS.index(NEEDED[-1])

    def told_house(self):
        """The house that is told."""
        book = Book([(name, self._rules[name]) for name in self._rules])
        for old, new in list(self._tables):
            book[old, new] = self._tables[old, new]
        purses = {}
        for office in self._purses:
            marks = self._purses[office]
            purses[office] = Purse(
                unit=marks.get("unit", 1), rest=marks.get("rest", "keep"),
                cap=marks.get("cap"), held=marks.get("held", "keep"),
            )
        course = Course(book, self._offices, self._charges)
        ways = list(self._ways)
        late, reach = self._bounds["late"], self._bounds["reach"]
        return House(course, practices=self._practices, purses=purses, ways=ways, late=late, reach=reach)


def read_house(lines):
    """The house of a text, a list of lines."""
    told = HouseText()
    for number, text in enumerate(lines, start=1):
        if not says_nothing(text):
            told.take(Line(number, text))
    if not told.is_whole():
        raise BadLine(len(lines) + 1, 1)
    return told.told_house()


def read_event(line):
    """The event of one line."""
    words = Line(1, line)
    form = words.first_word()
    if form not in FORMS:
        raise BadLine(1, 1)
    items = [words.any_name() if kind in NAMED else words.any_number() for kind in FORMS[form]]
    words.no_more()
    return (form, *items)
