"""Doubtful days: which of them matter to an office, and what shows it."""

from duehouse.checks import is_number
from duehouse.comparing import lives
from duehouse.courses import check_office
from duehouse.errors import BadNumber
from duehouse.ordering import ascending
from duehouse.seatrows import Watch
from duehouse.walks import unequal_track

MOST_DOUBTFUL = 4


def are_doubtful(doubtful, days):
    """Whether these are 1 to 4 different ones of so many days."""
    if not is_number(len(doubtful), 1, MOST_DOUBTFUL):
        return False
    if not all([is_number(day, 0, days - 1) for day in doubtful]):
        return False
    return all([day not in doubtful[:at] for at, day in enumerate(doubtful)])


def check_doubtful(course, office, life, code, doubtful):
    """Refuse what is no office, no life, no code, or no doubtful days of the life."""
    check_office(course.offices, office)
    course.run(life, code)
    if not are_doubtful(doubtful, len(life)):
        raise BadNumber("doubtful")


def corrected(life, doubtful, signs):
    """The life with these signs on the doubtful days."""
    corrections = {day: sign for day, sign in zip(doubtful, signs)}
    return tuple([corrections.get(day, sign) for day, sign in enumerate(life)])


def ends_of(course, office, life, code, doubtful):
    """For all signs of the doubtful days the own dues, and the number of the seat behind the life."""
    numbers = {seat: at for at, seat in enumerate(course.coming())}
    ends = {}
    for signs in lives(course.signs, len(doubtful)):
        told = corrected(life, doubtful, signs)
        ends[signs] = (course.own(office, told, code), numbers[course.seats(told, code)[-1]])
    return ends


def pairs_apart(ends, at):
    """All pairs of signs of the doubtful days that differ on the one with this index alone."""
    pairs = []
    for signs in ends:
        for others in ends:
            if signs[at] < others[at] and signs[:at] == others[:at] and signs[at + 1:] == others[at + 1:]:
                pairs.append((signs, others))
    return pairs


class Outcomes:
    """What an office books for a life, whatever signs the doubtful days have."""

    def __init__(self, course, office, life, code, doubtful):
        self._watch = Watch(course, office)
        self._ends = ends_of(course, office, life, code, doubtful)
        # What is found for two seats is kept, since many signs lead to the same ones.
        self._tracks = {}

    def _track(self, seat, other):
        """As few turns as possible on the last of which the own dues from both seats differ, or None."""
        if (seat, other) not in self._tracks:
            rows = self._watch.rows
            self._tracks[seat, other] = unequal_track(rows, rows, (seat, other))
        return self._tracks[seat, other]

    def further(self, signs, others):
        """As few turns as possible behind which the own dues have differed on some day, or None."""
        dues, seat = self._ends[signs]
        other_dues, other = self._ends[others]
        if dues != other_dues:
            return []
        track = self._track(seat, other)
        return None if track is None else self._watch.turns_of(track)

    def cheapest(self, at):
        """The signs, the others and the further turns that tell the doubtful day `at` soonest, or None."""
        best = None
        for signs, others in pairs_apart(self._ends, at):
            further = self.further(signs, others)
            if further is not None and (best is None or len(further) < len(best[2])):
                best = (signs, others, further)
        return best


def matters(course, office, life, code, doubtful):
    """The doubtful days that matter to the office, as an ascending tuple."""
    check_doubtful(course, office, life, code, doubtful)
    outcomes = Outcomes(course, office, life, code, doubtful)
    days = [day for at, day in enumerate(doubtful) if outcomes.cheapest(at) is not None]
    return tuple(ascending(days))


def cost(course, office, life, code, doubtful, day):
    """None if this doubtful day does not matter, else (first, second, further)."""
    check_doubtful(course, office, life, code, doubtful)
    if not is_number(day, 0, len(life) - 1) or day not in doubtful:
        raise BadNumber("day")
    outcomes = Outcomes(course, office, life, code, doubtful)
    found = outcomes.cheapest([at for at, other in enumerate(doubtful) if other == day][0])
    if found is None:
        return None
    signs, others, further = found
    return corrected(life, doubtful, signs), corrected(life, doubtful, others), further
