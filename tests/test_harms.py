"""Points 34 to 36: marks, ages, and the table of what is harmful, row by row."""

import unittest

from duehouse.books import Book
from duehouse.courses import Course
from duehouse.errors import NoMark, Unknown
from duehouse.harms import is_harmful, marks_of, rule_age, sign_age
from duehouse.houses import House
from duehouse.kinds import Flat, Once, Waiting
from duehouse.practices import Practice
from duehouse.rules import Rule
from duehouse.sessions import ends_wrong
from duehouse.spreads import rule_spread, sign_difference, sign_spread
from tests.support import WEAK, Case, made_course, made_history, made_house, seeded

AB = ("a", "b")
BOUNDS = [None, 0, 1, 2, 3]


def echo(days, due=5):
    """The sign b gives its due so many days later: 0, 1 or 2."""
    if days == 0:
        return Rule(AB, (((0, 0), (due, 0)),))
    if days == 1:
        return Rule(AB, (((0, 0), (0, 1)), ((due, 0), (due, 1))))
    # State 2 * (the day before had b) + (the day ahead of it had b).
    return Rule(AB, tuple(
        tuple((due if state & 1 else 0, 2 * sign + state // 2) for sign in (0, 1)) for state in range(4)
    ))


def echoing(days):
    """A course of one office whose sign changes show just so many days later, and no rule changes."""
    return Course(Book([("r", echo(days))]), ["x"])


def amended(days):
    """A course in which a rule change shows just so many days later, and no sign change does.

    Under s a day leads to a state that gives its due behind as many days; the tables keep the state.
    """
    rows = {
        0: ([(0, 0)], [(5, 0)]),
        1: ([(0, 0), (5, 0)], [(0, 1), (5, 1)]),
        2: ([(0, 0), (0, 2), (5, 0), (5, 2)], [(0, 1), (0, 3), (5, 1), (5, 3)]),
    }[days]
    rules = [Rule(AB, tuple((pair, pair) for pair in row)) for row in rows]
    book = Book([("r", rules[0]), ("s", rules[1])])
    book["r", "s"] = tuple(range(len(rows[0])))
    book["s", "r"] = tuple(range(len(rows[0])))
    return Course(book, ["x"])


def both_ways(course, mark, harmful, **parts):
    """The mark in a house without ways is harmful, or not, as told."""
    office, word, value = mark
    house = House(course, practices={office: Practice(**{word: value})}, ways=[], **parts)
    return is_harmful(house, mark) is harmful


class MarksTest(Case):
    def test_order(self):
        course = Course(Book([("r", Flat(AB, (1, 5)))]), ["z", "x", "y"])
        weak = Practice(asks=0, pays=1, term=2, stands="come", heeds="own", amends="ahead", again=3)
        house = House(course, practices={"x": weak, "z": Practice(pays=0)}, ways=[("x", "z"), ("z", "y")])
        self.assertEqual(marks_of(house), [
            ("z", "pays", 0), ("z", "hears", "y"),
            ("x", "again", 3), ("x", "amends", "ahead"), ("x", "heeds", "own"), ("x", "stands", "come"),
            ("x", "term", 2), ("x", "pays", 1), ("x", "asks", 0), ("x", "hears", "z"), ("x", "hears", "y"),
        ])

    def test_none(self):
        course = Course(Book([("r", Flat(AB, (1, 5)))]), ["z", "x", "y"])
        self.assertEqual(marks_of(House(course)), [])
        self.assertEqual(marks_of(House(course, ways=[("z", "x"), ("x", "y"), ("y", "z")])), [])
        self.assertEqual(len(marks_of(House(course, ways=[]))), 6)
        marks_of(House(course)).append(1)
        self.assertEqual(marks_of(House(course)), [])

    def test_no_mark(self):
        course = Course(Book([("r", Flat(AB, (1, 5)))]), ["x", "y"])
        house = House(course, practices={"x": Practice(term=1, pays=0)}, ways=[("x", "y")])
        self.assertEqual(marks_of(house), [("x", "term", 1), ("x", "pays", 0), ("x", "hears", "y")])
        for bad in [
            ("x", "term", 2), ("x", "term", None), ("x", "asks", 1), ("y", "term", 1), ("x", "term", True),
            ("x", "pays", False), ("y", "hears", "x"), ("x", "hears", "x"), ["x", "term", 1], None, (), "term",
            ("x", "term"), ("x", "term", 1, 1), ("x", "term", "1"),
        ]:
            with self.subTest(bad):
                self.refused(NoMark, {"mark": bad}, is_harmful, house, bad)
        for mark in marks_of(house):
            self.assertIn(is_harmful(house, mark), (True, False))


class AgesTest(Case):
    def test_ages(self):
        course = Course(Book([("r", Flat(AB, (1, 5)))]), ["x", "y", "z"])
        for late in BOUNDS:
            for reach in BOUNDS:
                house = House(course, ways=[("x", "y")], late=late, reach=reach)
                self.assertEqual([sign_age(house, office) for office in "xyz"], [late, None, late])
                self.assertEqual([rule_age(house, office) for office in "xyz"], [reach, None, reach])
                house = House(course, ways=[("x", "y"), ("y", "z")], late=late, reach=reach)
                self.assertEqual([sign_age(house, office) for office in "xyz"], [late, None, None])
                self.assertEqual([rule_age(house, office) for office in "xyz"], [reach, None, None])
        house = House(course)
        self.assertEqual([sign_age(house, "x"), rule_age(house, "x")], [None, None])

    def test_unknown(self):
        house = House(echoing(0))
        self.refused(Unknown, {"name": "q"}, sign_age, house, "q")
        self.refused(Unknown, {"name": "q"}, rule_age, house, "q")


class SpreadsOfTheseTests(Case):
    """What the courses of this file are made for."""

    def test_spreads(self):
        for days in [0, 1, 2]:
            self.assertEqual((sign_spread(echoing(days), "x"), rule_spread(echoing(days), "x")), ((days, days), None))
            self.assertEqual((sign_spread(amended(days), "x"), rule_spread(amended(days), "x")), (None, (days, days)))


class TableTest(Case):
    """Each row at the last value that is harmless and the first one that is harmful."""

    def test_again(self):
        for days in [0, 1, 2]:
            for again in [1, 2, 3]:
                for bound in BOUNDS:
                    harmful = days >= again and (bound is None or bound >= again + 1)
                    mark = ("x", "again", again)
                    self.assertTrue(both_ways(echoing(days), mark, harmful, late=bound, reach=0))
                    self.assertTrue(both_ways(amended(days), mark, harmful, late=0, reach=bound))
                    self.assertTrue(both_ways(echoing(days), mark, False, late=0, reach=bound))
                    self.assertTrue(both_ways(amended(days), mark, False, late=bound, reach=0))

    def test_again_without_a_greatest_number(self):
        course = Course(Book([("r", Once(AB, "b", 7))]), ["x"])
        self.assertEqual(sign_spread(course, "x"), (0, None))
        for again in [1, 2, 3]:
            for bound in BOUNDS:
                harmful = bound is None or bound >= again + 1
                self.assertTrue(both_ways(course, ("x", "again", again), harmful, late=bound, reach=0))

    def test_amends(self):
        for days in [0, 1, 2]:
            for bound in BOUNDS:
                harmful = bound != 0
                self.assertTrue(both_ways(amended(days), ("x", "amends", "ahead"), harmful, late=0, reach=bound))
                self.assertTrue(both_ways(echoing(days), ("x", "amends", "ahead"), False, late=0, reach=bound))

    def test_heeds(self):
        charges = {("x", "b"): "y", ("y", "b"): "x"}
        for bound in BOUNDS:
            course = Course(Book([("r", Flat(AB, (1, 5)))]), ["x", "y"], charges)
            for office in "xy":
                self.assertTrue(both_ways(course, (office, "heeds", "own"), bound != 0, late=bound, reach=0))
            # y pays, but no sign of a day of x shows at y, since x is in charge for ever.
            course = Course(Book([("r", Flat(AB, (1, 5)))]), ["x", "y"])
            for office in "xy":
                self.assertTrue(both_ways(course, (office, "heeds", "own"), False, late=bound))
            # x begins and passes on at once: its sign counts for y only if y reckons by it.
            passes = {("x", "a"): "y", ("x", "b"): "y"}
            for rule, office, harmful in [(echo(1), "y", True), (echo(0), "y", False), (echo(1), "x", False)]:
                course = Course(Book([("r", rule)]), ["x", "y"], passes)
                self.assertTrue(both_ways(course, (office, "heeds", "own"), harmful and bound != 0, late=bound, reach=0))

    def test_stands(self):
        dull = Rule(AB, (((3, 0), (3, 0)),))
        for book, office, seen in [
            (Book([("r", echo(1))]), "x", True), (Book([("r", dull), ("s", -dull)]), "x", True),
            (Book([("r", dull), ("s", dull)]), "x", False), (Book([("r", echo(1))]), "y", False),
        ]:
            course = Course(book, ["x", "y"])
            for ways in [[], [("x", "y")], [("y", "x")], None]:
                for bound in [None, 0]:
                    house = House(course, practices={office: Practice(stands="come")}, ways=ways, late=bound, reach=bound)
                    led = any(reader == office for _, reader in house.ways())
                    self.assertIs(is_harmful(house, (office, "stands", "come")), led and seen)

    def test_term(self):
        for days in [0, 1, 2]:
            for term in range(4):
                for bound in BOUNDS:
                    harmful = bound is None or bound >= term + 1
                    self.assertTrue(both_ways(echoing(days), ("x", "term", term), harmful, late=bound, reach=0))
                    self.assertTrue(both_ways(amended(days), ("x", "term", term), False, late=bound))

    def test_pays_and_asks(self):
        for word in ["pays", "asks"]:
            for days in [0, 1, 2]:
                for most in range(4):
                    for bound in BOUNDS:
                        harmful = bound is None or bound >= most + 1 + days
                        mark = ("x", word, most)
                        self.assertTrue(both_ways(echoing(days), mark, harmful, late=bound, reach=0))
                        self.assertTrue(both_ways(amended(days), mark, harmful, late=0, reach=bound))
                        self.assertTrue(both_ways(echoing(days), mark, False, late=0, reach=bound))
                        self.assertTrue(both_ways(amended(days), mark, False, late=bound, reach=0))

    def test_hears(self):
        dull = Rule(AB, (((3, 0), (3, 0)),))
        for book, harmful in [
            (Book([("r", echo(2))]), True), (Book([("r", dull)]), False), (Book([("r", dull), ("s", -dull)]), True),
        ]:
            course = Course(book, ["x", "y"])
            for bound in [None, 0]:
                house = House(course, ways=[], late=bound, reach=bound)
                self.assertIs(is_harmful(house, ("x", "hears", "y")), harmful)
                # y is in charge of no day.
                self.assertIs(is_harmful(house, ("y", "hears", "x")), False)

    def test_a_way_makes_the_age_endless(self):
        for word, value in [("again", 2), ("term", 3), ("pays", 1), ("asks", 1), ("amends", "ahead")]:
            for course in [echoing(2), amended(2)]:
                offices = Course(course.book_copy(), ["x", "y"])
                # Of these words term alone knows no rule changes, and amends no sign changes.
                seen = word != ("amends" if course.rules == ("r",) else "term")
                for ways in [[], [("x", "y")], [("y", "x")]]:
                    house = House(offices, practices={"x": Practice(**{word: value})}, ways=ways, late=0, reach=0)
                    self.assertIs(is_harmful(house, ("x", word, value)), seen and ways == [("y", "x")])

    def test_spreads_that_are_none(self):
        dull = Rule(AB, (((3, 0), (3, 0)),))
        course = Course(Book([("r", dull), ("s", dull)]), ["x", "y"])
        for word, values in WEAK.items():
            for value in values:
                house = House(course, practices={"x": Practice(**{word: value})})
                self.assertIs(is_harmful(house, ("x", word, value)), False)


def endless_at_least(many, number):
    return many is None or many >= number


def by_the_table(house, mark):
    """The table of point 35, each condition written out."""
    office, word, value = mark
    course = house.course
    led = any(reader == office for _, reader in house.ways())
    ages = [None if led else house.late, None if led else house.reach]
    sign, rule = sign_spread(course, office), rule_spread(course, office)
    if word == "again":
        narrow = None
        if endless_at_least(ages[1], value + 1):
            narrow = rule_spread(course, office, None if ages[1] is None else ages[1] - value)
        by_sign = endless_at_least(ages[0], value + 1) and sign is not None and endless_at_least(sign[1], value)
        return by_sign or (narrow is not None and endless_at_least(narrow[1], value))
    if word == "amends":
        return endless_at_least(ages[1], 1) and rule_spread(course, office, ages[1] or None) is not None
    if word == "heeds":
        return endless_at_least(ages[0], 1) and sign_difference(course, office, foreign=True) is not None
    if word == "stands":
        return led and (sign is not None or rule is not None)
    if word == "term":
        return endless_at_least(ages[0], value + 1) and sign is not None
    if word == "hears":
        return sign is not None or rule is not None
    by_sign = sign is not None and endless_at_least(ages[0], value + 1 + sign[0])
    return by_sign or (rule is not None and endless_at_least(ages[1], value + 1 + rule[0]))


class MadeUpTest(Case):
    def test_against_the_table(self):
        rnd, told = seeded(301), set()
        for _ in range(150):
            house = made_house(rnd, made_course(rnd, dues=(0, 0, 1, -2)))
            for mark in marks_of(house):
                harmful = is_harmful(house, mark)
                self.assertIs(harmful, by_the_table(house, mark))
                told.add((mark[1], harmful))
        self.assertEqual(len(told), 16)

    def test_each_mark_counts_by_itself(self):
        """Point 36: where no mark is harmful, no made-up history ends wrong."""
        rnd, right = seeded(302), 0
        for _ in range(120):
            house = made_house(rnd, made_course(rnd, 2, 2, 3, 2, dues=(0, 0, 1, -2)))
            if marks_of(house) == [] or any(is_harmful(house, mark) for mark in marks_of(house)):
                continue
            right += 1
            for _ in range(15):
                days = rnd.randint(1, 6)
                events = made_history(rnd, house, days, rnd.randint(1, 12))
                self.assertEqual(ends_wrong(house, events), (), (marks_of(house), events))
        self.assertGreater(right, 20)


class WaitingTest(Case):
    def test_far(self):
        """A run of signs: far is the wait, and again is harmful up to it."""
        for wait in range(4):
            course = Course(Book([("r", Waiting(AB, "b", wait, 7))]), ["x"])
            self.assertEqual(sign_spread(course, "x"), (0, wait))
            for again in [1, 2, 3]:
                self.assertTrue(both_ways(course, ("x", "again", again), wait >= again))


if __name__ == "__main__":
    unittest.main()
