"""What several tests need: refusals, all short lives, and made-up rules and books."""

import random
import unittest
from itertools import product

from duehouse.books import Book
from duehouse.courses import Course
from duehouse.errors import DueError, TooLate
from duehouse.houses import House
from duehouse.practices import Practice
from duehouse.purses import Purse
from duehouse.rules import Rule
from duehouse.sessions import Session


class Case(unittest.TestCase):
    """A test case that can ask for a refusal of just one kind, with its fields."""

    def refused(self, error, fields, call, *told, **more):
        """The call raises just this error, whose fields are the very things that are told here."""
        with self.assertRaises(DueError) as caught:
            call(*told, **more)
        self.assertIs(caught.exception.__class__, error)
        self.assertEqual(set(vars(caught.exception)), set(fields))
        for name, value in fields.items():
            held = getattr(caught.exception, name)
            self.assertIs(held.__class__, value.__class__)
            self.assertEqual(held, value)
        return caught.exception


def put(table, key, value):
    """`table[key] = value`, as a call."""
    table[key] = value


def got(table, key):
    """`table[key]`, as a call."""
    return table[key]


def all_lives(signs, most):
    """All lives of at most so many days, the shorter ones first."""
    for days in range(most + 1):
        for life in product(signs, repeat=days):
            yield life


def made_rule(rnd, signs, states, dues=(0, 1)):
    """A rule with this many states, made up."""
    rows = []
    for _ in range(states):
        rows.append(tuple((rnd.choice(dues), rnd.randrange(states)) for _ in signs))
    return Rule(signs, tuple(rows))


def made_book(rnd, signs, rules, states, dues=(0, 1), kept=True):
    """A book with rules a, b, .. and made-up tables."""
    named = [("abc"[k], made_rule(rnd, signs, rnd.randint(1, states), dues)) for k in range(rules)]
    book = Book(named)
    for old, rule in named:
        for new, other in named:
            if old != new:
                choices = [*range(len(other)), *([None] if kept else [])]
                book[old, new] = tuple(rnd.choice(choices) for _ in rule)
    return book


def seeded(seed):
    """Random numbers that are the same in each run."""
    return random.Random(seed)


def made_course(rnd, signs=3, rules=3, states=3, offices=3, dues=(0, 0, 1)):
    """A course, made up, with at most so many of each."""
    book = made_book(rnd, ("a", "b", "c")[: rnd.randint(1, signs)], rnd.randint(1, rules), states, dues)
    names = ("x", "y", "z")[: rnd.randint(1, offices)]
    charges = {}
    for office in names:
        for sign in book.signs:
            if rnd.random() < 0.5:
                charges[office, sign] = rnd.choice(names)
    return Course(book, names, charges)


def own_from(course, office, seat, turns):
    """The own dues of an office on these turns from the seat on."""
    dues = []
    for rule, sign in turns:
        due, behind = course.step(seat, rule, sign)
        dues.append(due if seat[0] == office else 0)
        seat = behind
    return dues


def seat_behind(course, seat, turns):
    """The seat to which these turns lead from the seat."""
    for rule, sign in turns:
        _, seat = course.step(seat, rule, sign)
    return seat


WEAK = {
    "again": [1, 2, 3], "amends": ["ahead"], "heeds": ["own"], "stands": ["come"], "term": [0, 1, 2, 3],
    "pays": [0, 1, 2, 3], "asks": [0, 1, 2, 3],
}


def made_practice(rnd):
    """A practice, made up, mostly with a single weak mark."""
    words = rnd.sample(list(WEAK), rnd.choice([0, 1, 1, 1, 2, 3, 7]))
    return Practice(**{word: rnd.choice(WEAK[word]) for word in words})


def made_purse(rnd):
    """A purse, made up."""
    keeping = rnd.random() < 0.5
    return Purse(
        unit=rnd.randint(1, 5), cap=rnd.choice([None, 1, 3, 99]), rest="keep" if keeping else rnd.choice(["keep", "drop"]),
        held="keep" if keeping else rnd.choice(["keep", "drop"]),
    )


def all_pairs(offices):
    """All pairs of different offices."""
    return [(writer, reader) for writer in offices for reader in offices if writer != reader]


def made_house(rnd, course, full=False):
    """A house with this course, made up."""
    return House(
        course,
        practices={} if full else {office: made_practice(rnd) for office in course.offices},
        purses={office: made_purse(rnd) for office in course.offices},
        ways=None if rnd.random() < 0.3 else [way for way in all_pairs(course.offices) if rnd.random() < 0.5],
        late=rnd.choice([None, 0, 1, 2, 3]),
        reach=rnd.choice([None, 0, 1, 2, 3]),
    )


def made_event(rnd, session, days, tellers):
    """An event that the session may refuse, for being too late, and that tells of so many days."""
    course, told = session.house.course, len(list(session.truth()))
    words = ["tell", "tell", "amend", "appeal", "day"] + ["void"] * (told > 0) + ["read"] * 3 * (session.letters() != [])
    word, office, day = rnd.choice(words), rnd.choice(tellers), rnd.randrange(days)
    return {
        "tell": ("tell", office, day, rnd.choice(course.signs)),
        "amend": ("amend", office, day, rnd.choice(course.rules)),
        "void": ("void", office, rnd.randint(1, max(1, told))),
        "read": ("read", rnd.randrange(max(1, len(session.letters())))),
        "appeal": ("appeal", office, day),
        "day": ("day",),
    }[word]


def made_history(rnd, house, days, many, tellers=None):
    """A history of so many days, made up, with about so many other events, told at these offices alone."""
    session, events = Session(house), []
    tellers = house.course.offices if tellers is None else tellers
    while session.days < days or many > 0:
        event = made_event(rnd, session, days, tellers)
        if event == ("day",) and session.days == days:
            continue
        if many <= 0:
            event = ("day",)
        try:
            session.do(event)
            events.append(event)
        except TooLate:
            pass
        many -= event != ("day",)
    return events
