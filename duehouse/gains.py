"""Gains and losses: by how much more than is right a late word lets a file end, or by how much less."""

from duehouse.courses import check_office
from duehouse.latewords import best_word


def word_events(course, office, turns, day, sign):
    """The events of the late word with these turns that tells this sign of the day in the end."""
    events = []
    current = course.rules[0]
    for at, (rule, told) in enumerate(turns):
        if told != course.signs[0]:
            events.append(("tell", office, at, told))
        if rule != current:
            current = rule
            events.append(("amend", office, at, rule))
        events.append(("day",))
    events.append(("tell", office, day, sign))
    return events


class Gain:
    """The greatest gain, or loss, of a late word at an office, None if there is no greatest one."""

    def __init__(self, course, office, most, word):
        self.most = most
        self._course = course
        self._office = office
        self._word = word

    def late_word(self, times=0):
        """The events of a late word that reaches it; if there is none, each next time gives more."""
        word = self._word
        if word is None:
            return []
        turns = word.ahead + word.ring * times + word.tail
        return word_events(self._course, self._office, turns, word.day, word.sign)


def greatest_gain(house, office):
    """The greatest gain of a late word at the office."""
    check_office(house.course.offices, office)
    most, word = best_word(house, office, True)
    return Gain(house.course, office, most, word)


def greatest_loss(house, office):
    """The greatest loss of a late word at the office."""
    check_office(house.course.offices, office)
    most, word = best_word(house, office, False)
    return Gain(house.course, office, most, word)
