"""Courses: the offices that are in charge of the days of a book."""

from duehouse.books import check_history
from duehouse.checks import check_names
from duehouse.errors import Unknown
from duehouse.ordering import ascending
from duehouse.rules import check_sign


def check_office(offices, office):
    """Refuse what is none of the offices."""
    if office not in offices:
        raise Unknown(office)


def check_charges(offices, signs, charges):
    """Refuse charges with an office or a sign that is not there."""
    for office, sign in ascending(charges):
        check_office(offices, office)
        check_sign(signs, sign)
        check_office(offices, charges[office, sign])


def all_charges(offices, signs, charges):
    """For each office and sign the office in charge of the next day."""
    full = {}
    for office in offices:
        for sign in signs:
            full[office, sign] = charges.get((office, sign), office)
    return full


def own_due(office, seat, due):
    """What this due of a day behind the seat is for the office."""
    return due if seat[0] == office else 0


class Course:
    """A book with offices, of which one is in charge of each day."""

    def __init__(self, book, offices, charges=None):
        check_names("offices", offices)
        told = {} if charges is None else charges
        check_charges(offices, book.signs, told)
        self.offices = tuple(offices)
        self.signs = book.signs
        self.rules = book.names
        self.start = (offices[0], "", 0)
        self._book = book.copy()
        self._charges = all_charges(offices, book.signs, told)

    def book_copy(self):
        """A new copy of the book."""
        return self._book.copy()

    def charge(self, office, sign):
        """The office in charge of the day after a day with this sign in the charge of this office."""
        check_office(self.offices, office)
        check_sign(self.signs, sign)
        return self._charges[office, sign]

    def turns(self):
        """All turns, in order."""
        return [(rule, sign) for rule in self.rules for sign in self.signs]

    def step(self, seat, rule, sign):
        """The due of a day and the seat behind it."""
        office, name, state = seat
        due, place = self._book.step((name, state), rule, sign)
        return due, (self._charges[office, sign], *place)

    def seats(self, life, code):
        """The seats ahead of each day and behind the last one."""
        check_history(self.signs, self.rules, life, code)
        seats = [self.start]
        for sign, rule in zip(life, code):
            _, seat = self.step(seats[-1], rule, sign)
            seats.append(seat)
        return seats

    def run(self, life, code):
        """For each day the office in charge of it and the due."""
        check_history(self.signs, self.rules, life, code)
        pairs = []
        seat = self.start
        for sign, rule in zip(life, code):
            due, behind = self.step(seat, rule, sign)
            pairs.append((seat[0], due))
            seat = behind
        return pairs

    def own(self, office, life, code):
        """The own dues of the office."""
        check_office(self.offices, office)
        return [due if charged == office else 0 for charged, due in self.run(life, code)]

    def coming(self):
        """All seats that come, in the order of coming."""
        seats = [self.start]
        known = {self.start: True}
        turns = self.turns()
        at = 0
        while at < len(seats):
            for rule, sign in turns:
                _, seat = self.step(seats[at], rule, sign)
                if seat not in known:
                    known[seat] = True
                    seats.append(seat)
            at += 1
        return seats

    def like(self, office, seat, other):
        """Whether all further turns give the office the same own dues from both seats."""
        check_office(self.offices, office)
        pairs = [(seat, other)]
        known = {(seat, other): True}
        turns = self.turns()
        at = 0
        while at < len(pairs):
            one, two = pairs[at]
            for rule, sign in turns:
                due, one_behind = self.step(one, rule, sign)
                other_due, two_behind = self.step(two, rule, sign)
                if own_due(office, one, due) != own_due(office, two, other_due):
                    return False
                if (one_behind, two_behind) not in known:
                    known[one_behind, two_behind] = True
                    pairs.append((one_behind, two_behind))
            at += 1
        return True
