"""Point 25: doubtful days, which of them matter, and files whose only weak mark is a term."""

import unittest
from itertools import product

from duehouse.books import Book
from duehouse.courses import Course
from duehouse.errors import BadNumber, TooLate, Unknown
from duehouse.files import File
from duehouse.kinds import Flat, Once, Upto, Waiting
from duehouse.practices import Practice
from duehouse.sheets import Sheet
from duehouse.terms import cost, matters
from tests.support import Case, made_course, own_from, seat_behind, seeded

AB = ("a", "b")


def course_of(rule, offices=("x",), charges=None):
    return Course(Book([("r", rule)]), list(offices), charges)


def with_signs(life, signs):
    """The life with other signs, by a dict from days."""
    return tuple(signs.get(day, sign) for day, sign in enumerate(life))


def pairs_of(course, life, doubtful, day):
    """All pairs of lives that differ on the doubtful days at most, and from one another on `day` alone."""
    others = [other for other in doubtful if other != day]
    for signs in product(course.signs, repeat=len(others)):
        for one, two in product(course.signs, repeat=2):
            if one != two:
                told = dict(zip(others, signs))
                yield with_signs(life, {**told, day: one}), with_signs(life, {**told, day: two})


def fewest_turns(course, office, one, two):
    """The least number of further turns that show a difference between two seats, by all rows of turns."""
    pairs = {(one, two)}
    met = set()
    for days in range(1, 200):
        behind = set()
        for (first, second), turn in product(pairs, course.turns()):
            if own_from(course, office, first, [turn]) != own_from(course, office, second, [turn]):
                return days
            behind.add((seat_behind(course, first, [turn]), seat_behind(course, second, [turn])))
        pairs = behind - met
        met |= pairs
        if not pairs:
            return None
    raise AssertionError("too far")


def cost_by_words(course, office, life, code, doubtful, day):
    """The least number of further turns, None if the day does not matter."""
    found = []
    for first, second in pairs_of(course, life, doubtful, day):
        if course.own(office, first, code) != course.own(office, second, code):
            return 0
        ends = [course.seats(told, code)[-1] for told in (first, second)]
        found.append(fewest_turns(course, office, *ends))
    return min([many for many in found if many is not None], default=None)


class RefusedTest(Case):
    def calls(self, course):
        return [
            lambda office, life, code, doubtful: matters(course, office, life, code, doubtful),
            lambda office, life, code, doubtful: cost(course, office, life, code, doubtful, 77),
        ]

    def test_in_order(self):
        course = course_of(Flat(AB, (1, 2)), ("x", "y"))
        for call in self.calls(course):
            for bad in ["q", "", None, True, 0, []]:
                self.refused(Unknown, {"name": bad}, call, bad, ("z",), (), [])
            self.refused(BadNumber, {"name": "code"}, call, "x", ("z", "a"), ("q",), [])
            self.refused(BadNumber, {"name": "code"}, call, "y", (), ("r",), [])
            self.refused(Unknown, {"name": "z"}, call, "x", ("a", "z", "w"), ("q", "r", "r"), [])
            self.refused(Unknown, {"name": "q"}, call, "x", ("a", "b"), ("q", "p"), [])

    def test_doubtful_days(self):
        course = course_of(Flat(AB, (1, 2)))
        for call in self.calls(course):
            for bad in [
                [], [0, 1, 2, 3, 4], [0, 0], [1, 2, 1], [6], [-1], [0, 6], [True], [0, True], [False], [None], ["0"],
                [0, None], [0.0],
            ]:
                with self.subTest(bad):
                    self.refused(BadNumber, {"name": "doubtful"}, call, "x", ("a",) * 6, ("r",) * 6, bad)
            self.refused(BadNumber, {"name": "doubtful"}, call, "x", (), (), [0])
        self.assertEqual(matters(course, "x", ("a",) * 6, ("r",) * 6, [0, 1, 2, 5]), (0, 1, 2, 5))

    def test_day(self):
        course = course_of(Flat(AB, (1, 2)))
        for bad in [0, 2, 5, 6, -1, True, False, None, "1", 1.0, []]:
            told = ("x", ("a",) * 6, ("r",) * 6, [1, 3])
            self.refused(BadNumber, {"name": "day"}, cost, course, *told, bad)
        self.refused(BadNumber, {"name": "doubtful"}, cost, course, "x", ("a",) * 6, ("r",) * 6, [1, 1], 2)


class MattersTest(Case):
    def test_examples(self):
        once = course_of(Once(AB, "b", 7))
        life, code = ("a", "a", "b", "a"), ("r",) * 4
        self.assertEqual(matters(once, "x", life, code, [0]), (0,))
        self.assertEqual(matters(once, "x", life, code, [3]), ())
        # If the day 2 is doubtful, too, the day 3 may be the first with b.
        self.assertEqual(matters(once, "x", life, code, [3, 2]), (2, 3))
        self.assertIsNone(cost(once, "x", life, code, [3], 3))
        first, second, further = cost(once, "x", life, code, [3, 2], 3)
        self.assertEqual((further, first[:3], second[:3]), ([], ("a", "a", "a"), ("a", "a", "a")))

    def test_further_turns(self):
        waiting = course_of(Waiting(AB, "b", 2, 7))
        life, code = ("a", "a", "a"), ("r",) * 3
        self.assertEqual(matters(waiting, "x", life, code, [2]), (2,))
        self.assertEqual(cost(waiting, "x", life, code, [2], 2)[2], [("r", "b"), ("r", "b")])
        self.assertEqual(matters(waiting, "x", life, code, [1]), ())
        self.assertEqual(matters(waiting, "x", life, code, [1, 2]), (1, 2))
        # With the day 2 doubtful one further turn shows the day 1, and one the day 2.
        self.assertEqual(cost(waiting, "x", life, code, [1, 2], 1)[2], [("r", "b")])
        self.assertEqual(cost(waiting, "x", life, code, [1, 2], 2)[2], [("r", "b")])

    def test_offices(self):
        course = course_of(Flat(AB, (1, 2)), ("x", "y", "z"), {("x", "b"): "y", ("y", "b"): "x"})
        life, code = ("a", "b", "a", "a"), ("r",) * 4
        self.assertEqual(matters(course, "z", life, code, [0, 1, 2, 3]), ())
        self.assertEqual(matters(course, "x", life, code, [3]), (3,))
        self.assertEqual(matters(course, "y", life, code, [3]), (3,))
        still = course_of(Upto(AB, "a", 2, 5), ("x", "y"))
        self.assertEqual(matters(still, "y", life, code, [0, 1]), ())
        self.assertEqual(matters(still, "x", life, code, [1, 0]), (0, 1))

    def test_arguments_stay(self):
        course = course_of(Flat(AB, (1, 2)))
        life, code, doubtful = ["a", "b"], ["r", "r"], [1, 0]
        self.assertEqual(matters(course, "x", life, code, doubtful), (0, 1))
        first, second, further = cost(course, "x", life, code, doubtful, 1)
        self.assertEqual((life, code, doubtful), (["a", "b"], ["r", "r"], [1, 0]))
        self.assertEqual((first.__class__, second.__class__, further), (tuple, tuple, []))

    def check(self, course, office, life, code, doubtful):
        wished = {day: cost_by_words(course, office, life, code, doubtful, day) for day in doubtful}
        found = matters(course, office, life, code, doubtful)
        self.assertIsInstance(found, tuple)
        self.assertEqual(found, tuple(sorted(day for day in doubtful if wished[day] is not None)))
        for day in doubtful:
            told = cost(course, office, life, code, doubtful, day)
            self.assertEqual(cost(course, office, life, code, doubtful, day), told)
            if told is None:
                self.assertIsNone(wished[day])
                continue
            self.assertIsInstance(told, tuple)
            first, second, further = told
            self.assertIsInstance(further, list)
            self.assertEqual(len(further), wished[day])
            self.assertIn((first, second), list(pairs_of(course, life, doubtful, day)))
            signs, rules = tuple(sign for _, sign in further), tuple(rule for rule, _ in further)
            dues = [course.own(office, track + signs, tuple(code) + rules) for track in (first, second)]
            self.assertNotEqual(*dues)
        return {many for many in wished.values()}

    def test_made_up_courses(self):
        rnd = seeded(141)
        met = set()
        for _ in range(120):
            course = made_course(rnd, 3, 2, 3, 3, (0, 0, 0, 0, 0, 1))
            days = rnd.randint(1, 7)
            life = tuple(rnd.choice(course.signs) for _ in range(days))
            code = tuple(rnd.choice(course.rules) for _ in range(days))
            doubtful = rnd.sample(range(days), rnd.randint(1, min(4, days)))
            met |= self.check(course, rnd.choice(course.offices), life, code, doubtful)
        self.assertTrue({None, 0, 1, 2} <= met)

    def test_long_lives(self):
        rnd = seeded(142)
        for _ in range(3):
            course = made_course(rnd, 3, 3, 3, 3, (0, 0, 0, 1))
            life = tuple(rnd.choice(course.signs) for _ in range(200))
            code = tuple(rnd.choice(course.rules) for _ in range(200))
            self.check(course, course.offices[0], life, code, [199, 100, 198, 0])


class TermTest(Case):
    """Files with a term in which the days that matter are appealed in time, or not."""

    def told_file(self, course, office, term, life, code, appealed):
        """A file that is told the life and the code ahead of their days; each day is appealed when it is over."""
        file = File(course, office, Practice(term=term))
        number = 0
        for day, (sign, rule) in enumerate(zip(life, code)):
            for form, name in [("sign", sign), ("rule", rule)]:
                number += 1
                file.read((number, form, day, name))
        for day in range(len(life)):
            if day in appealed and term == 0:
                file.appeal(day)
            file.pass_day()
            if day in appealed and term > 0:
                file.appeal(day)
        return file, number

    def wrong_days(self, file, course, office):
        sheet = Sheet(file.entries())
        life, code = sheet.life_of(file.days, course.signs[0]), sheet.code_of(file.days, course.rules[0])
        own = course.own(office, life, code)
        return [day for day in range(file.days) if file.booked(day) != own[day]]

    def made_up(self, rnd):
        course = made_course(rnd, 3, 2, 3, 2, (0, 0, 0, 1))
        days = rnd.randint(4, 8)
        life = tuple(rnd.choice(course.signs) for _ in range(days))
        code = tuple(rnd.choice(course.rules) for _ in range(days))
        return course, rnd.choice(course.offices), life, code

    def test_all_that_matter_are_appealed(self):
        rnd = seeded(143)
        met = set()
        for _ in range(120):
            course, office, life, code = self.made_up(rnd)
            term = rnd.randint(0, 3)
            doubtful = rnd.sample(range(len(life) - 3), rnd.randint(1, min(4, len(life) - 3)))
            needed = matters(course, office, life, code, doubtful)
            file, number = self.told_file(course, office, term, life, code, needed)
            met.add(len(needed) == len(doubtful))
            for _ in range(12):
                number += 1
                if rnd.random() < 0.2 and file.days < 20:
                    file.read((number, "sign", file.days, rnd.choice(course.signs)))
                    number += 1
                    file.read((number, "rule", file.days, rnd.choice(course.rules)))
                    file.pass_day()
                else:
                    file.read((number, "sign", rnd.choice(doubtful), rnd.choice(course.signs)))
                self.assertEqual(self.wrong_days(file, course, office), [])
        self.assertEqual(met, {True, False})

    def test_one_that_matters_is_not_appealed(self):
        rnd = seeded(144)
        met = 0
        while met < 60:
            course, office, life, code = self.made_up(rnd)
            term = rnd.randint(0, 3)
            doubtful = rnd.sample(range(len(life) - 3), rnd.randint(1, min(4, len(life) - 3)))
            needed = matters(course, office, life, code, doubtful)
            if not needed:
                continue
            met += 1
            lacking = rnd.choice(needed)
            first, second, further = cost(course, office, life, code, doubtful, lacking)
            file, number = self.told_file(course, office, term, first, code, set(needed) - {lacking})
            self.assertEqual(self.wrong_days(file, course, office), [])
            self.refused(TooLate, {"day": lacking}, file.appeal, lacking)
            file.read((number + 1, "sign", lacking, second[lacking]))
            number += 1
            for at, (rule, sign) in enumerate(further, start=len(life)):
                file.read((number + 1, "sign", at, sign))
                file.read((number + 2, "rule", at, rule))
                number += 2
                file.pass_day()
            self.assertNotEqual(self.wrong_days(file, course, office), [])


if __name__ == "__main__":
    unittest.main()
