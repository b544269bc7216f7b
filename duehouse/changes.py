"""The changes of one day that an office watches: of its sign, or of its rule.

Seats, rules, signs and turns stand for their numbers, as in duehouse.seatrows. What a change does is
the same as what the change back does: only those into a later sign or rule are listed.

A change of a rule on several days is made by changes of one day each, one behind the other. Where the
long one is seen, one of these is seen, too: no earlier behind its day than the long one behind its
last day, and no later than behind its first day. So those of one day tell all spreads, whatever number
of days is let, and there is always one of them among the changes with the shortest life.
"""

from duehouse.seatrows import unlike_pair


class Change:
    """A change of the day behind a seat."""

    def __init__(self, watch, seat, turn, other, name):
        step = watch.rows[seat][turn]
        beside = watch.rows[seat][other]
        self.seat = seat
        # The turn of the day as it is without the change.
        self.turn = turn
        # The sign or the rule that the change puts in.
        self.name = name
        # Whether the office sees the change on the day itself.
        self.seen = step[0] != beside[0]
        # The pair of seats behind the day, None if they are one.
        self.behind = unlike_pair(step[1], beside[1])


def changes_of(watch, seats, turns):
    """All changes of the day behind one of the seats from a turn into another one, each with its name."""
    return [Change(watch, seat, turn, other, name) for seat in seats for turn, other, name in turns]


def sign_changes(watch, foreign):
    """All changes of signs; with foreign only of days that are not in charge of the office."""
    seats = [seat for seat in range(len(watch.rows)) if not (foreign and watch.in_charge[seat])]
    turns = [
        (watch.turn_number(rule, sign), watch.turn_number(rule, other), other)
        for rule in range(watch.many_rules)
        for other in range(watch.many_signs)
        for sign in range(other)
    ]
    return changes_of(watch, seats, turns)


def rule_changes(watch):
    """All changes of rules."""
    turns = [
        (watch.turn_number(rule, sign), watch.turn_number(other, sign), other)
        for sign in range(watch.many_signs)
        for other in range(watch.many_rules)
        for rule in range(other)
    ]
    return changes_of(watch, list(range(len(watch.rows))), turns)
