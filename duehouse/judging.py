"""Judging: whether a house is right, and for each harmful mark a history that ends wrong."""

from duehouse.errors import Blamed, HouseWrong
from duehouse.harms import Outlook, check_house_mark, harmful_marks, is_harmful, marks_of
from duehouse.histories import crossed_history, late_history, unheard_history
from duehouse.houses import House
from duehouse.plans import shortest_plan
from duehouse.practices import FULL
from duehouse.sessions import ends_wrong


class Harm:
    """A harmful mark and a history that ends wrong by it."""

    def __init__(self, mark, events):
        self.mark = mark
        self.events = list(events)


class Verdict:
    """The harms of a house, and its harmless marks."""

    def __init__(self, harms, harmless):
        self.harms = tuple(harms)
        self.harmless = tuple(harmless)

    def __bool__(self):
        return bool(len(self.harms) == 0)

    def __iter__(self):
        return iter(self.harms)


def harm_by(house, mark):
    """The Harm of a mark that is harmful."""
    office, word, value = mark
    plan = shortest_plan(house, mark)
    if word == "hears":
        return Harm(mark, unheard_history(house.course, office, value, plan))
    if word == "stands":
        return Harm(mark, crossed_history(house.course, house.ways(), office, plan))
    return Harm(mark, late_history(house.course, house.ways(), office, plan))


def harm_of(house, mark):
    """The Harm of a mark of the house, None if it is harmless."""
    if not is_harmful(house, mark):
        return None
    return harm_by(house, mark)


def judge(house):
    """The Verdict of a house."""
    harmful = harmful_marks(Outlook(house.course), house)
    harmless = [mark for mark in marks_of(house) if mark not in harmful]
    return Verdict([harm_by(house, mark) for mark in harmful], harmless)


def assure(house):
    """Refuse a house that is not right."""
    harmful = harmful_marks(Outlook(house.course), house)
    if len(harmful) > 0:
        mark = harmful[0]
        raise HouseWrong(mark[0]) from Blamed(mark)


def bare(house, mark):
    """The house with this one of its marks alone: all practices are full but for it."""
    check_house_mark(house, mark)
    office, word, value = mark
    course = house.course
    purses = {other: house.purse(other) for other in course.offices}
    plain = House(course, purses=purses, ways=list(house.ways()), late=house.late, reach=house.reach)
    return plain if word == "hears" else plain.with_mark(office, word, value)


def blamed(house, events):
    """The practice marks without each of which alone the history, which ends wrong, would not."""
    if len(ends_wrong(house, events)) == 0:
        return []
    found = []
    for mark in marks_of(house):
        office, word, _ = mark
        if word != "hears" and len(ends_wrong(house.with_mark(office, word, FULL[word]), events)) == 0:
            found.append(mark)
    return found
