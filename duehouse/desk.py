"""The desk: takes lines of events and questions, and answers with lines."""

from duehouse.errors import BadNumber, Closed, NoEntry, NoLetter, TooLate, TooMany, Unknown
from duehouse.events import FORMS
from duehouse.harms import Outlook, harmful_marks
from duehouse.lines import Line, says_nothing
from duehouse.reading import read_event, read_house
from duehouse.sessions import Session
from duehouse.writing import line_of, write_happening

QUESTIONS = ("settle", "life", "code", "file", "wrong", "paid", "verdict")


def or_done(lines):
    """The lines, or the one line that tells that there are none."""
    return lines if len(lines) > 0 else ["done"]


def said_of(happened):
    """The lines that tell what happened."""
    return or_done([write_happening(happening) for happening in happened])


def row_line(file, day):
    """The line of a passed day of a file."""
    sign, rule, seat, due = file.row(day)
    office, name, state = seat
    place_rule = "-" if name == "" else name
    return line_of(["row", day, sign, rule, office, place_rule, state, due, file.booked(day)])


class Desk:
    """A session of a house to which lines are said."""

    def __init__(self, house):
        self._house = house
        self._session = Session(house)

    @classmethod
    def from_lines(cls, lines):
        """The desk of the house that these lines tell."""
        return cls(read_house(lines))

    def say(self, line):
        """The lines of the answer."""
        if says_nothing(line):
            return []
        words = Line(1, line)
        word = words.first_word()
        if word in FORMS:
            return self._do(read_event(line))
        if word not in QUESTIONS:
            words.refuse_first()
        office = None
        if word in ("file", "paid"):
            office = words.one_of(self._house.course.offices)
        words.no_more()
        return self._answer(word, office)

    def _do(self, event):
        """The answer to an event."""
        try:
            return said_of(self._session.do(event))
        except Closed:
            return ["refused Closed"]
        except Unknown:
            return ["refused Unknown"]
        except BadNumber:
            return ["refused BadNumber"]
        except NoEntry:
            return ["refused NoEntry"]
        except NoLetter:
            return ["refused NoLetter"]
        except TooLate:
            return ["refused TooLate"]
        except TooMany:
            return ["refused TooMany"]

    def _answer(self, word, office):
        """The answer to a question, which may be about an office."""
        if word == "settle":
            return said_of(self._session.settle())
        if word == "life":
            return [line_of(["life", *self._session.true_days()[0]])]
        if word == "code":
            return [line_of(["code", *self._session.true_days()[1]])]
        if word == "wrong":
            return or_done([line_of(["wrong", *row]) for row in self._session.wrong()])
        if word == "file":
            file = self._session.file(office)
            return or_done([row_line(file, day) for day in range(file.days)])
        if word == "paid":
            return [line_of(["paid", office, self._session.purse(office).paid])]
        harmful = harmful_marks(Outlook(self._house.course), self._house)
        return [line_of(["harmful", *mark]) for mark in harmful] if len(harmful) > 0 else ["right"]

    def listing(self, lines):
        """Each line, and behind it its answer; a line is said just when its own line is asked for."""
        for line in list(lines):
            answer = self.say(line)
            yield f"> {line}"
            for text in answer:
                yield f"  {text}"
