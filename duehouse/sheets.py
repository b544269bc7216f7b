"""Sheets of entries: what was told of days and rules, put right and withdrawn."""

from duehouse.checks import check_number, is_name, is_number
from duehouse.errors import BadEntry, BadSpell, Clash, NoEntry

MOST_NUMBER = 999
LAST_DAY = 59
MOST_DAYS = 60


def is_entry(entry):
    """Whether this is an entry of one of the three forms."""
    if not isinstance(entry, tuple) or len(entry) < 3:
        return False
    if not is_number(entry[0], 1, MOST_NUMBER):
        return False
    if entry[1] == "void":
        return len(entry) == 3 and is_number(entry[2], 1, entry[0] - 1)
    if entry[1] != "sign" and entry[1] != "rule":
        return False
    return len(entry) == 4 and is_number(entry[2], 0, LAST_DAY) and is_name(entry[3])


def joined(entries):
    """The entries, each once, as a tuple ascending by their numbers."""
    for entry in entries:
        if not is_entry(entry):
            raise BadEntry(entry)
    table = {}
    clashing = []
    for entry in entries:
        if table.setdefault(entry[0], entry) != entry:
            clashing.append(entry[0])
    if len(clashing) > 0:
        raise Clash(min([int(number) for number in clashing]))
    return tuple([table[number] for number in sorted([int(number) for number in table])])


def standing(rows):
    """For the number of each entry whether it stands."""
    withdrawn = {}
    # Entries are withdrawn by later ones only: from the last one back each is settled when it is met.
    for entry in reversed(list(rows)):
        if entry[1] == "void" and entry[0] not in withdrawn:
            withdrawn[entry[2]] = True
    return {entry[0]: entry[0] not in withdrawn for entry in rows}


def told_names(rows, stands, form):
    """For each day of which a standing entry of this form tells, the name that counts."""
    names = {}
    for entry in rows:
        if entry[1] == form and stands[entry[0]]:
            names[entry[2]] = entry[3]
    return names


class Sheet:
    """A set of entries of which no two have the same number."""

    def __init__(self, entries=()):
        rows = joined(entries)
        stands = standing(rows)
        self._rows = rows
        self._standing = stands
        self._signs = told_names(rows, stands, "sign")
        self._rules = told_names(rows, stands, "rule")

    def __iter__(self):
        return iter(self._rows)

    def __len__(self):
        return len(self._rows)

    def __contains__(self, entry):
        return is_entry(entry) and entry in self._rows

    def __eq__(self, other):
        return isinstance(other, Sheet) and self._rows == other._rows

    def __le__(self, other):
        if not isinstance(other, Sheet):
            return NotImplemented
        return all([entry in other._rows for entry in self._rows])

    def __or__(self, other):
        if not isinstance(other, Sheet):
            return NotImplemented
        return Sheet(self._rows + other._rows)

    def __ior__(self, other):
        if not isinstance(other, Sheet):
            return NotImplemented
        both = Sheet(self._rows + other._rows)
        self._rows = both._rows
        self._standing = both._standing
        self._signs = both._signs
        self._rules = both._rules
        return self

    def stands(self, number):
        """Whether the entry with this number stands."""
        if not is_number(number, 1, MOST_NUMBER) or number not in self._standing:
            raise NoEntry(number)
        return self._standing[number]

    def top(self):
        """The greatest number, 0 in an empty sheet."""
        return self._rows[-1][0] if len(self._rows) > 0 else 0

    def sign_of(self, day):
        """The told sign of the day, or None."""
        return self._signs.get(day)

    def rule_of(self, day):
        """The told rule of the day, or None."""
        while day > 0 and day not in self._rules:
            day = day - 1
        return self._rules.get(day)

    def life_of(self, days, plain):
        """The signs of so many days."""
        check_number("days", days, 0, MOST_DAYS)
        return tuple([self._signs.get(day, plain) for day in range(days)])

    def code_of(self, days, first):
        """The rules of so many days."""
        check_number("days", days, 0, MOST_DAYS)
        code = []
        rule = first
        for day in range(days):
            rule = self._rules.get(day, rule)
            code.append(rule)
        return tuple(code)

    def turning_rule(self, day, rule):
        """The rule of the day if the day before it has this rule."""
        return self._rules.get(day, rule)


def lacking_signs(sheet, life, plain):
    """The days, each with its wished sign, whose signs the sheet tells otherwise."""
    lacking = []
    for day, sign in enumerate(life):
        told = sheet.sign_of(day)
        if (plain if told is None else told) != sign:
            lacking.append((day, sign))
    return lacking


def lacking_rules(sheet, code, first):
    """The days, each with its wished rule, on which an entry must change the rule."""
    lacking = []
    rule = first
    for day, wished in enumerate(code):
        rule = sheet.turning_rule(day, rule)
        if rule != wished:
            lacking.append((day, wished))
            rule = wished
    return lacking


def additions(sheet, life, code, *, plain, first):
    """The fewest entries behind which the sheet has this life and this code."""
    wished = [("sign", day, sign) for day, sign in lacking_signs(sheet, life, plain)]
    wished.extend([("rule", day, rule) for day, rule in lacking_rules(sheet, code, first)])
    return [(number, *row) for number, row in enumerate(wished, start=sheet.top() + 1)]


def first_apart(sheet, other, days, *, plain, first):
    """The first of so many days on which the two sheets tell unlike signs or rules, or None."""
    turns = list(zip(sheet.life_of(days, plain), sheet.code_of(days, first)))
    others = list(zip(other.life_of(days, plain), other.code_of(days, first)))
    for day in range(days):
        if turns[day] != others[day]:
            return day
    return None


def spells(track):
    """The longest runs of one name, as tuples (first, last, name)."""
    found = []
    first = 0
    for day, name in enumerate(track):
        if day + 1 == len(track) or track[day + 1] != name:
            found.append((first, day, name))
            first = day + 1
    return found


def is_spell_from(spell, day):
    """Whether this is a spell that begins on the day."""
    if not isinstance(spell, tuple) or len(spell) != 3:
        return False
    first, last, _ = spell
    if not isinstance(last, int) or isinstance(last, bool):
        return False
    return is_number(first, day, day) and first <= last


def track_of(spells):
    """The tuple of names that has these spells."""
    track = []
    for spell in spells:
        if not is_spell_from(spell, len(track)):
            raise BadSpell(spell)
        first, last, name = spell
        track.extend([name] * (last - first + 1))
    return tuple(track)
