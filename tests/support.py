"""What several tests need: refusals, all short lives, and made-up rules and books."""

import random
import unittest
from itertools import product

from duehouse.books import Book
from duehouse.courses import Course
from duehouse.errors import DueError
from duehouse.rules import Rule


class Case(unittest.TestCase):
    """A test case that can ask for a refusal of just one kind, with its fields."""

    def refused(self, error, fields, call, *told, **more):
        """The call raises just this error, whose fields are the very things that are told here."""
        with self.assertRaises(DueError) as caught:
            call(*told, **more)
        self.assertIs(caught.exception.__class__, error)
        self.assertEqual(set(vars(caught.exception)), set(fields))
        for name, value in fields.items():
            held = getattr(caught.exception, name)
            self.assertIs(held.__class__, value.__class__)
            self.assertEqual(held, value)
        return caught.exception


def put(table, key, value):
    """`table[key] = value`, as a call."""
    table[key] = value


def got(table, key):
    """`table[key]`, as a call."""
    return table[key]


def all_lives(signs, most):
    """All lives of at most so many days, the shorter ones first."""
    for days in range(most + 1):
        for life in product(signs, repeat=days):
            yield life


def made_rule(rnd, signs, states, dues=(0, 1)):
    """A rule with this many states, made up."""
    rows = []
    for _ in range(states):
        rows.append(tuple((rnd.choice(dues), rnd.randrange(states)) for _ in signs))
    return Rule(signs, tuple(rows))


def made_book(rnd, signs, rules, states, dues=(0, 1), kept=True):
    """A book with rules a, b, .. and made-up tables."""
    named = [("abc"[k], made_rule(rnd, signs, rnd.randint(1, states), dues)) for k in range(rules)]
    book = Book(named)
    for old, rule in named:
        for new, other in named:
            if old != new:
                choices = [*range(len(other)), *([None] if kept else [])]
                book[old, new] = tuple(rnd.choice(choices) for _ in rule)
    return book


def seeded(seed):
    """Random numbers that are the same in each run."""
    return random.Random(seed)


def made_course(rnd, signs=3, rules=3, states=3, offices=3, dues=(0, 0, 1)):
    """A course, made up, with at most so many of each."""
    book = made_book(rnd, ("a", "b", "c")[: rnd.randint(1, signs)], rnd.randint(1, rules), states, dues)
    names = ("x", "y", "z")[: rnd.randint(1, offices)]
    charges = {}
    for office in names:
        for sign in book.signs:
            if rnd.random() < 0.5:
                charges[office, sign] = rnd.choice(names)
    return Course(book, names, charges)


def own_from(course, office, seat, turns):
    """The own dues of an office on these turns from the seat on."""
    dues = []
    for rule, sign in turns:
        due, behind = course.step(seat, rule, sign)
        dues.append(due if seat[0] == office else 0)
        seat = behind
    return dues


def seat_behind(course, seat, turns):
    """The seat to which these turns lead from the seat."""
    for rule, sign in turns:
        _, seat = course.step(seat, rule, sign)
    return seat
