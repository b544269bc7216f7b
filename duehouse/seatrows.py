"""The seats of a course as one office sees them, as rows like those of a rule.

Seats that come are numbered in the order of coming, turns in their order. A seat has a row with a
pair (own due of the office, number of the next seat) for each turn.
"""

from duehouse.courses import own_due
from duehouse.walks import track_to, walked_pairs


def seat_rows(course, office):
    """The rows of all seats that come."""
    seats = course.coming()
    numbers = {seat: at for at, seat in enumerate(seats)}
    rows = []
    for seat in seats:
        row = []
        for rule, sign in course.turns():
            due, behind = course.step(seat, rule, sign)
            row.append((own_due(office, seat, due), numbers[behind]))
        rows.append(tuple(row))
    return rows


def depths_of(walked):
    """For each seat with how few days a life leads to it."""
    depths = []
    for _, _, back, _ in walked:
        depths.append(0 if back is None else depths[back] + 1)
    return depths


def unlike_pair(one, other):
    """Two seats as a pair, the lesser one first; None if they are one."""
    if one == other:
        return None
    return (one, other) if one < other else (other, one)


class Watch:
    """An office that watches the seats of a course."""

    def __init__(self, course, office):
        self.rows = seat_rows(course, office)
        self.turn_list = course.turns()
        self.many_signs = len(course.signs)
        self.many_rules = len(course.rules)
        self.in_charge = [seat[0] == office for seat in course.coming()]
        # Each seat is paired with itself, so that the pairs have the numbers of the seats.
        self._walked = walked_pairs(self.rows, self.rows)
        self.depths = depths_of(self._walked)

    def turn_number(self, rule, sign):
        """The number of the turn with this rule and this sign, given by their numbers."""
        return rule * self.many_signs + sign

    def way_to(self, seat):
        """The numbers of as few turns as possible that lead to the seat."""
        return track_to(self._walked, seat)

    def turns_of(self, track):
        """The turns with these numbers."""
        return [self.turn_list[turn] for turn in track]
