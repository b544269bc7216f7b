"""Books of named rules, with tables that carry a running life from one rule to another."""

from duehouse.checks import check_new_name, check_number, is_number
from duehouse.errors import BadNumber, BadTable, SameName, TooMany, Unknown
from duehouse.rules import check_alike, check_sign

MOST_RULES = 3
MOST_BOOK_STATES = 4


def check_rules(rules):
    """Refuse what is not 1 to 3 pairs (name, rule) for a book."""
    check_number("rules", len(rules), 1, MOST_RULES)
    names = []
    for name, rule in rules:
        check_new_name(name, names)
        check_alike(rules[0][1], rule)
        if len(rule) > MOST_BOOK_STATES:
            raise TooMany(MOST_BOOK_STATES)
        names.append(name)


def check_rule(names, name):
    """Refuse what is none of the names of rules."""
    if name not in names:
        raise Unknown(name)


def check_two_rules(names, old, new):
    """Refuse what is not two different names of rules."""
    check_rule(names, old)
    check_rule(names, new)
    if old == new:
        raise SameName(old)


def check_history(signs, names, life, code):
    """Refuse a life and a code of unlike lengths, or with other signs or rules than these."""
    if len(life) != len(code):
        raise BadNumber("code")
    for sign in life:
        check_sign(signs, sign)
    for rule in code:
        check_rule(names, rule)


def is_table(table, states, new_states):
    """Whether this has an entry for each of so many states, each one of so many new states or None."""
    if not isinstance(table, (tuple, list)) or len(table) != states:
        return False
    return all([entry is None or is_number(entry, 0, new_states - 1) for entry in table])


class Book:
    """Named rules with the same signs, and a table for each two of them."""

    def __init__(self, rules):
        check_rules(rules)
        self.names = tuple([name for name, _ in rules])
        self.signs = rules[0][1].signs
        self._rules = {name: rule.copy() for name, rule in rules}
        self._numbers = {sign: at for at, sign in enumerate(self.signs)}
        self._tables = {}
        for old, rule in rules:
            for new in self.names:
                if old != new:
                    self._tables[old, new] = tuple([0 for _ in rule])

    def __iter__(self):
        return iter(self.names)

    def rule_named(self, name):
        """A copy of the rule with this name."""
        check_rule(self.names, name)
        return self._rules[name].copy()

    def __getitem__(self, at):
        old, new = at
        check_two_rules(self.names, old, new)
        return self._tables[old, new]

    def __setitem__(self, at, worth):
        old, new = at
        check_two_rules(self.names, old, new)
        if not is_table(worth, len(self._rules[old]), len(self._rules[new])):
            raise BadTable(worth)
        self._tables[old, new] = tuple(worth)

    def copy(self):
        """A new book with the same rules and tables."""
        book = Book([(name, self._rules[name]) for name in self.names])
        for old, new in list(self._tables):
            book[old, new] = self._tables[old, new]
        return book

    def _taken(self, place, rule):
        """The place with which a day under this rule begins for a person who has this place."""
        if place[0] == rule:
            return place
        if place[0] == "":
            return (rule, 0)
        entry = self._tables[place[0], rule][place[1]]
        return place if entry is None else (rule, entry)

    def step(self, place, rule, sign):
        """The due of a day and the place behind it."""
        check_rule(self.names, rule)
        check_sign(self.signs, sign)
        name, state = self._taken(place, rule)
        due, after = self._rules[name].rows[state][self._numbers[sign]]
        return due, (name, after)

    def places(self, life, code):
        """The places ahead of each day and behind the last one."""
        check_history(self.signs, self.names, life, code)
        places = [("", 0)]
        for sign, rule in zip(life, code):
            _, place = self.step(places[-1], rule, sign)
            places.append(place)
        return places

    def dues(self, life, code):
        """The dues of the days."""
        check_history(self.signs, self.names, life, code)
        dues = []
        place = ("", 0)
        for sign, rule in zip(life, code):
            due, place = self.step(place, rule, sign)
            dues.append(due)
        return dues
