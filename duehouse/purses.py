"""Purses: what an office pays, asks back and holds."""

from duehouse.checks import check_number, is_number
from duehouse.errors import BadMark, Closed

MOST_UNIT = 5
MOST_CAP = 99
MOST_BOOKED = 9999
# No shortest list of steps that loses needs a due beyond these: amounts are at most 20, and a run
# that leaves something to ask back asks back at most 99.
LOWEST_DUE = -200
GREATEST_DUE = 100


def check_unit(unit):
    """Refuse what is no unit."""
    if not is_number(unit, 1, MOST_UNIT):
        raise BadMark("unit", unit)


def check_cap(cap):
    """Refuse what is no cap."""
    if cap is not None and not is_number(cap, 1, MOST_CAP):
        raise BadMark("cap", cap)


def check_keeping(word, value):
    """Refuse what is neither keep nor drop."""
    if not isinstance(value, str) or value not in ("keep", "drop"):
        raise BadMark(word, value)


def check_booked(amount):
    """Refuse what is no amount to book."""
    check_number("amount", amount, -MOST_BOOKED, MOST_BOOKED)


def check_open(purse):
    """Refuse a closed purse."""
    if purse.closed:
        raise Closed()


def paid_by_run(due, unit, cap):
    """What a run pays of what is due; below 0 it is asked back."""
    if due < 0:
        return due if cap is None or due > -cap else -cap
    return due - due % unit


class Purse:
    """What is due, what waits and what was paid."""

    def __init__(self, *, unit=1, rest="keep", cap=None, held="keep"):
        check_unit(unit)
        check_keeping("rest", rest)
        check_cap(cap)
        check_keeping("held", held)
        self._unit = unit
        self._cap = cap
        self.rest = rest
        self.held_mark = held
        self.due = 0
        self.waiting = 0
        self.paid = 0
        self.is_held = False
        self.closed = False
        # What would be due if the purse were freed: the sum of what is due and what waits.
        self._due_freed = 0

    @property
    def unit(self):
        """The mark unit: what is paid is a multiple of it."""
        return self._unit

    @unit.setter
    def unit(self, value):
        check_unit(value)
        self._unit = value

    @property
    def cap(self):
        """The mark cap: what a run asks back at most, or None."""
        return self._cap

    @cap.setter
    def cap(self, value):
        check_cap(value)
        self._cap = value

    def __bool__(self):
        return bool(self.due == 0 and self.waiting == 0)

    def book(self, amount):
        """Add the amount to what is due, or to what waits in a held purse."""
        check_open(self)
        check_booked(amount)
        if self.is_held and self.held_mark == "drop" and amount > 0:
            return
        if self.is_held:
            self.waiting = self.waiting + amount
        else:
            self.due = self.due + amount
        self._due_freed = self._due_freed + amount

    def hold(self):
        """Begin a hold."""
        check_open(self)
        self.is_held = True

    def free(self):
        """End a hold."""
        check_open(self)
        self.due = self._due_freed
        self.waiting = 0
        self.is_held = False

    def run(self):
        """Pay, or ask back, what can be; returns it."""
        check_open(self)
        if self.is_held:
            return 0
        amount = paid_by_run(self.due, self._unit, self._cap)
        lost = self.due - amount if self.due > 0 and self.rest == "drop" else 0
        self.paid = self.paid + amount
        self.due = self.due - amount - lost
        self._due_freed = self.due
        return amount

    def close(self):
        """Free the purse and pay, or ask back, exactly what is due; returns it."""
        self.free()
        amount = self.due
        self.paid = self.paid + amount
        self.due = 0
        self._due_freed = 0
        self.closed = True
        return amount

    def next_runs(self):
        """What the next runs would pay, up to the last one that pays anything."""
        # In a closed purse nothing is due.
        due = 0 if self.is_held else self.due
        unit = self._unit
        cap = self._cap
        amount = paid_by_run(due, unit, cap)
        while amount != 0:
            yield amount
            due = due - amount
            amount = paid_by_run(due, unit, cap)

    def empty_copy(self):
        """A new purse with the same marks."""
        return Purse(unit=self._unit, rest=self.rest, cap=self._cap, held=self.held_mark)

    def copy(self):
        """A new purse with the same marks, in the same state."""
        twin = self.empty_copy()
        twin.due = self.due
        twin.waiting = self.waiting
        twin.paid = self.paid
        twin.is_held = self.is_held
        twin.closed = self.closed
        twin._due_freed = self._due_freed
        return twin


def set_marks(purse, *, unit, cap):
    """Set both marks of the purse, or none."""
    check_unit(unit)
    check_cap(cap)
    purse.unit = unit
    purse.cap = cap


class Held:
    """In its block the purse is held; behind it, it is freed, unless it was held ahead of it."""

    def __init__(self, purse):
        self._purse = purse
        self._freed = purse

    def __enter__(self):
        # A purse that was held ahead of the block stays held: then an empty one is freed in its place.
        self._freed = self._purse.empty_copy() if self._purse.is_held else self._purse
        self._purse.hold()
        return self._purse

    def __exit__(self, kind, value, trace):
        self._freed.due = self._freed._due_freed
        self._freed.waiting = 0
        self._freed.is_held = False


def paid_while_held(purse, amounts):
    """Book the amounts while the purse is held; what a run behind each of them returns."""
    check_open(purse)
    for amount in amounts:
        check_booked(amount)
    paid = []
    with Held(purse) as held:
        for amount in amounts:
            held.book(amount)
            paid.append(held.run())
    return paid


def do_step(purse, step):
    """Do a step with the purse; returns what was booked."""
    word = step[0]
    if word == "book":
        purse.book(step[1])
        return step[1]
    if word == "hold":
        purse.hold()
    elif word == "free":
        purse.free()
    else:
        purse.run()
    return 0


def loses(purse, steps):
    """Whether the list of steps loses with the marks of this purse."""
    trial = purse.empty_copy()
    booked = 0
    for step in steps:
        booked = booked + do_step(trial, step)
    trial.close()
    return trial.paid != booked


def due_behind(due, step, cap):
    """What is due behind a step that loses nothing."""
    if step[0] == "book":
        return due + step[1]
    return due - paid_by_run(due, 1, cap)


def least_run_loss(purse, amounts):
    """As few steps as possible whose last run loses what it leaves over, or None.

    Holds are of no use here: they only put off what becomes due.
    """
    steps = [("run",), *[("book", amount) for amount in amounts]]
    reached = [(0, [])]
    known = {0: True}
    at = 0
    while at < len(reached):
        due, done = reached[at]
        if due > 0 and due % purse.unit != 0:
            return [*done, ("run",)]
        for step in steps:
            behind = due_behind(due, step, purse.cap)
            if behind not in known and LOWEST_DUE <= behind <= GREATEST_DUE:
                known[behind] = True
                reached.append((behind, [*done, step]))
        at += 1
    return None


def least_loss(purse, amounts):
    """None if no list of steps with these amounts loses, else such a list with as few steps as possible."""
    gains = [amount for amount in amounts if amount > 0]
    if purse.held_mark == "drop" and len(gains) > 0:
        return [("hold",), ("book", gains[0])]
    if purse.rest == "drop":
        return least_run_loss(purse, amounts)
    return None
