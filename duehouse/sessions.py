"""Sessions: a house that is run about one person, event by event."""

from duehouse.books import check_rule
from duehouse.checks import check_number, is_number
from duehouse.courses import check_office
from duehouse.errors import Closed, NoEntry, NoLetter, TooLate, TooMany
from duehouse.events import FORMS, check_event
from duehouse.files import File
from duehouse.ordering import ascending
from duehouse.rules import check_sign
from duehouse.sheets import LAST_DAY, MOST_DAYS, Sheet

MOST_TOLD = 120


def paid(office, amount):
    """What happened when the purse of the office paid this."""
    return [] if amount == 0 else [("pay", office, amount)]


class Session:
    """A house that is run about one person."""

    def __init__(self, house):
        offices = house.course.offices
        self.house = house
        self.days = 0
        self._closed = False
        # The entries told, by number from 1 on.
        self._told = []
        # The waiting letters, tuples (writer, reader, entry), the eldest first.
        self._letters = []
        # Each pair (office, number) of an entry that the office has learnt.
        self._learnt = {}
        self._ways = house.ways()
        self._files = {office: File(house.course, office, house.practice(office)) for office in offices}
        self._purses = {office: house.purse(office) for office in offices}

    def _check_item(self, kind, item):
        """Refuse an item of an event that the session does not have."""
        course = self.house.course
        if kind == "office":
            check_office(course.offices, item)
        elif kind == "sign":
            check_sign(course.signs, item)
        elif kind == "rule":
            check_rule(course.rules, item)
        elif kind == "day":
            check_number("day", item, 0, LAST_DAY)
        elif kind == "number" and not is_number(item, 1, len(self._told)):
            raise NoEntry(item)
        elif kind == "index" and not is_number(item, 0, len(self._letters) - 1):
            raise NoLetter(item)

    def _led_to(self, number):
        """The "sign" or "rule" entry to which voids lead from the entry with this number."""
        entry = self._told[number - 1]
        while entry[1] == "void":
            entry = self._told[entry[2] - 1]
        return entry

    def _check_time(self, form, day):
        """Refuse a sign or a rule that is told of this day too many days behind it."""
        bound = self.house.late if form == "sign" else self.house.reach
        if bound is not None and self.days - day > bound:
            raise TooLate(day)

    def _check_entry(self, event):
        """Refuse an event that tells an entry too late, or one too many."""
        if event[0] == "void":
            entry = self._led_to(event[2])
            self._check_time(entry[1], entry[2])
        else:
            self._check_time("sign" if event[0] == "tell" else "rule", event[2])
        if len(self._told) == MOST_TOLD:
            raise TooMany(MOST_TOLD)

    def _check(self, event):
        """Refuse what the session does not do; the appeals that come too late are left to the file."""
        check_event(event)
        if self._closed:
            raise Closed()
        for kind, item in zip(FORMS[event[0]], event[1:]):
            self._check_item(kind, item)
        if event[0] in ("tell", "amend", "void"):
            self._check_entry(event)
        elif event[0] == "day" and self.days == MOST_DAYS:
            raise TooMany(MOST_DAYS)

    def do(self, event):
        """Do the event; the list of what happened."""
        self._check(event)
        word = event[0]
        if word == "tell":
            return self._tell(event[1], ("sign", event[2], event[3]))
        if word == "amend":
            return self._tell(event[1], ("rule", event[2], event[3]))
        if word == "void":
            return self._tell(event[1], ("void", event[2]))
        if word == "read":
            return self._read(event[1])
        if word == "day":
            return self._pass_day()
        if word == "close":
            return self._close()
        if word == "appeal":
            self._files[event[1]].appeal(event[2])
            return []
        return self._use_purse(word, event[1])

    def _use_purse(self, word, office):
        """The purse of the office is held, freed or run."""
        purse = self._purses[office]
        if word == "run":
            return paid(office, purse.run())
        if word == "hold":
            purse.hold()
        else:
            purse.free()
        return []

    def _tell(self, office, told):
        """A new entry is told at the office."""
        entry = (len(self._told) + 1, *told)
        self._told.append(entry)
        return self._learn(office, entry)

    def _learn(self, office, entry):
        """The office reads an entry for the first time and writes its letters."""
        happened = []
        for day, amount in self._files[office].read(entry):
            self._purses[office].book(amount)
            happened.append(("book", office, day, amount))
        self._learnt[office, entry[0]] = True
        for reader in self._ways.writes(office):
            self._letters.append((office, reader, entry))
            happened.append(("letter", office, reader, entry[0]))
        return happened

    def _read(self, index):
        """The waiting letter with this index is read."""
        _, reader, entry = self._letters.pop(index)
        if (reader, entry[0]) in self._learnt:
            return []
        return self._learn(reader, entry)

    def _pass_day(self):
        """A day passes in all files."""
        happened = []
        for office, file in self._files.items():
            amount = file.pass_day()
            if amount != 0:
                self._purses[office].book(amount)
                happened.append(("book", office, self.days, amount))
        self.days = self.days + 1
        return happened

    def _close(self):
        """The session is brought to rest, and all purses are closed."""
        happened = self.settle()
        for office, purse in self._purses.items():
            happened.extend(paid(office, purse.close()))
        self._closed = True
        return happened

    def settle(self):
        """Bring the session to rest; all that happened."""
        happened = []
        while len(self._letters) > 0:
            happened.extend(self._read(0))
        return happened

    def truth(self):
        """The sheet of all entries told."""
        return Sheet(self._told)

    def letters(self):
        """The waiting letters, tuples (writer, reader, number), the eldest first."""
        return [(writer, reader, entry[0]) for writer, reader, entry in self._letters]

    def file(self, office):
        """A copy of the file of the office."""
        check_office(self.house.course.offices, office)
        return self._files[office].copy()

    def purse(self, office):
        """A copy of the purse of the office."""
        check_office(self.house.course.offices, office)
        return self._purses[office].copy()

    def true_days(self):
        """The life and the code of the truth for the passed days."""
        course = self.house.course
        truth = self.truth()
        return truth.life_of(self.days, course.signs[0]), truth.code_of(self.days, course.rules[0])

    def wrong(self):
        """The wrong days, tuples (office, day, booked, due), office by office."""
        course = self.house.course
        life, code = self.true_days()
        wrong = []
        for office, file in self._files.items():
            for day, due in enumerate(course.own(office, life, code)):
                booked = file.booked(day)
                if booked != due:
                    wrong.append((office, day, booked, due))
        return wrong

    def copy(self):
        """A new session in the same state."""
        twin = Session(self.house)
        twin.days = self.days
        twin._closed = self._closed
        twin._told = list(self._told)
        twin._letters = list(self._letters)
        twin._learnt = {pair: True for pair in self._learnt}
        twin._files = {office: self._files[office].copy() for office in self._files}
        twin._purses = {office: self._purses[office].copy() for office in self._purses}
        return twin


class Trying:
    """In its block events can be done; behind it, the session is as it was ahead of it."""

    def __init__(self, session):
        self._session = session
        self._ahead = session

    def __enter__(self):
        self._ahead = self._session.copy()
        return self._session

    def __exit__(self, kind, value, trace):
        self._session.days = self._ahead.days
        self._session._closed = self._ahead._closed
        self._session._told = self._ahead._told
        self._session._letters = self._ahead._letters
        self._session._learnt = self._ahead._learnt
        self._session._files = self._ahead._files
        self._session._purses = self._ahead._purses


def tried(session, events):
    """The wrong days if the session does these events and is brought to rest; it stays as it is."""
    with Trying(session) as trial:
        for event in events:
            trial.do(event)
        trial.settle()
        wrong = trial.wrong()
    return wrong


def ends_wrong(house, events):
    """The offices in which this history ends wrong, as an ascending tuple."""
    offices = {}
    for office, _, _, _ in tried(Session(house), events):
        offices[office] = True
    return tuple(ascending(list(offices)))
