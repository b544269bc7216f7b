"""Point 12: courses, seats, own dues."""

import unittest
from itertools import product

from duehouse.books import Book
from duehouse.courses import Course
from duehouse.errors import BadName, BadNumber, Taken, Unknown
from duehouse.kinds import Flat, Once, Upto
from tests.support import Case, made_book, own_from, seeded

AB = ("a", "b")


def two_rules():
    book = Book([("r", Flat(AB, (1, 2))), ("s", Upto(AB, "a", 2, 10))])
    book["s", "r"] = (0, None, 0)
    return book


def made_course(rnd, states=3):
    signs = ("a", "b", "c")[: rnd.randint(1, 3)]
    book = made_book(rnd, signs, rnd.randint(1, 3), states, (0, 0, 1))
    offices = ("x", "y", "z")[: rnd.randint(1, 3)]
    pairs = list(product(offices, signs))
    charges = {pair: rnd.choice(offices) for pair in pairs if rnd.random() < 0.5}
    return Course(book, offices, charges), book, charges


class CourseTest(Case):
    def test_attributes(self):
        course = Course(two_rules(), ["x", "abcdefgh"])
        self.assertEqual(course.offices, ("x", "abcdefgh"))
        self.assertEqual(course.signs, AB)
        self.assertEqual(course.rules, ("r", "s"))
        self.assertEqual(course.start, ("x", "", 0))
        self.assertEqual(Course(two_rules(), ("z", "y", "x")).start, ("z", "", 0))

    def test_offices(self):
        book = two_rules()
        wrong = {("q", "a"): "x"}
        self.refused(BadNumber, {"name": "offices"}, Course, book, [], wrong)
        self.refused(BadNumber, {"name": "offices"}, Course, book, ["x", "y", "z", "A"], wrong)
        for bad in ["", "X", "abcdefghi", None, True, 5, []]:
            self.refused(BadName, {"name": bad}, Course, book, ["x", bad, "x"], wrong)
        self.refused(Taken, {"name": "x"}, Course, book, ["x", "x", "A"], wrong)
        self.refused(BadName, {"name": "A"}, Course, book, ["x", "A", "x"], wrong)

    def test_unknown_in_charges(self):
        book = two_rules()
        for charges, name in [
            ({("q", "a"): "x"}, "q"),
            ({("x", "c"): "x"}, "c"),
            ({("q", "c"): "w"}, "q"),
            ({("x", "c"): "w"}, "c"),
            ({("x", "a"): "w"}, "w"),
            ({("y", "b"): "w", ("x", "b"): "v", ("z", "a"): "u"}, "v"),
            ({("y", "b"): "w", ("x", "b"): "y", ("y", "a"): "u"}, "u"),
            ({("z", "a"): "x", ("y", "b"): "", ("x", "b"): "y"}, ""),
            ({("x", "a"): None}, None),
            ({("x", "a"): True}, True),
            ({("x", "a"): "y", ("x", "ab"): "y", ("x", "b"): "v"}, "ab"),
            ({("a", "a"): "y", ("x", "a"): "v"}, "a"),
        ]:
            with self.subTest(charges):
                self.refused(Unknown, {"name": name}, Course, book, ["x", "y"], charges)

    def test_charge(self):
        course = Course(two_rules(), ["x", "y", "z"], {("x", "a"): "y", ("y", "b"): "x", ("z", "a"): "z"})
        told = {pair: course.charge(*pair) for pair in product("xyz", "ab")}
        self.assertEqual(told, {
            ("x", "a"): "y", ("x", "b"): "x", ("y", "a"): "y", ("y", "b"): "x", ("z", "a"): "z", ("z", "b"): "z",
        })
        for bad in ["q", "", None, True, []]:
            self.refused(Unknown, {"name": bad}, course.charge, bad, "q")
            self.refused(Unknown, {"name": bad}, course.charge, "x", bad)
        plain = Course(two_rules(), ["x", "y"])
        self.assertEqual(plain.charge("y", "a"), "y")
        self.assertEqual(Course(two_rules(), ["x", "y"], {}).charge("x", "b"), "x")

    def test_turns(self):
        course = Course(two_rules(), ["x"])
        self.assertEqual(course.turns(), [("r", "a"), ("r", "b"), ("s", "a"), ("s", "b")])
        course.turns().clear()
        self.assertEqual(len(course.turns()), 4)
        backwards = Course(Book([("s", Flat(("b", "a"), (1, 1))), ("r", Flat(("b", "a"), (1, 1)))]), ["x"])
        self.assertEqual(backwards.turns(), [("s", "b"), ("s", "a"), ("r", "b"), ("r", "a")])

    def test_copies(self):
        book = two_rules()
        offices, charges = ["x", "y"], {("x", "a"): "y"}
        course = Course(book, offices, charges)
        book["s", "r"] = (0, 0, 0)
        offices.append("z")
        charges["x", "b"] = "y"
        self.assertEqual(course.offices, ("x", "y"))
        self.assertEqual(course.charge("x", "b"), "x")
        self.assertEqual(course.book_copy()["s", "r"], (0, None, 0))
        course.book_copy()["s", "r"] = (0, 0, 0)
        self.assertEqual(course.book_copy()["s", "r"], (0, None, 0))
        self.assertEqual(course.step(("x", "s", 1), "r", "a"), (10, ("y", "s", 2)))
        self.assertEqual((book["s", "r"], charges), ((0, 0, 0), {("x", "a"): "y", ("x", "b"): "y"}))

    def test_step(self):
        course = Course(two_rules(), ["x", "y"], {("x", "a"): "y", ("y", "b"): "x"})
        self.assertEqual(course.step(course.start, "s", "a"), (10, ("y", "s", 1)))
        self.assertEqual(course.step(("x", "s", 1), "r", "b"), (0, ("x", "s", 1)))
        self.assertEqual(course.step(("y", "s", 2), "r", "b"), (2, ("x", "r", 0)))
        for bad in ["q", "", None, True, []]:
            self.refused(Unknown, {"name": bad}, course.step, course.start, bad, "q")
            self.refused(Unknown, {"name": bad}, course.step, course.start, "r", bad)

    def test_handing_over(self):
        course = Course(two_rules(), ["x", "y", "z"], {("x", "a"): "y", ("y", "b"): "x"})
        life, code = ("b", "a", "a", "b", "a"), ("r", "r", "s", "s", "r")
        self.assertEqual(course.seats(life, code), [
            ("x", "", 0), ("x", "r", 0), ("y", "r", 0), ("y", "s", 1), ("x", "s", 1), ("y", "s", 2),
        ])
        self.assertEqual(course.run(life, code), [("x", 2), ("x", 1), ("y", 10), ("y", 0), ("x", 10)])
        self.assertEqual(course.own("x", life, code), [2, 1, 0, 0, 10])
        self.assertEqual(course.own("y", life, code), [0, 0, 10, 0, 0])
        self.assertEqual(course.own("z", life, code), [0] * 5)
        self.assertEqual((course.seats((), ()), course.run((), ()), course.own("z", (), ())), ([course.start], [], []))

    def test_refusals(self):
        course = Course(two_rules(), ["x", "y"])
        calls = [course.seats, course.run, lambda life, code: course.own("y", life, code)]
        for call in calls:
            self.refused(BadNumber, {"name": "code"}, call, ("z", "a"), ("u",))
            self.refused(BadNumber, {"name": "code"}, call, (), ("r",))
            self.refused(Unknown, {"name": "z"}, call, ("a", "z", "y"), ("u", "r", "r"))
            self.refused(Unknown, {"name": "u"}, call, ("a", "b", "a"), ("r", "u", "v"))
        for bad in ["q", "", None, True, []]:
            self.refused(Unknown, {"name": bad}, course.own, bad, ("z",), ())
            self.refused(Unknown, {"name": bad}, course.like, bad, course.start, course.start)

    def test_made_up_courses(self):
        rnd = seeded(31)
        for _ in range(60):
            course, book, charges = made_course(rnd)
            days = rnd.choice([1, 7, 200])
            life = tuple(rnd.choice(course.signs) for _ in range(days))
            code = tuple(rnd.choice(course.rules) for _ in range(days))
            charged = [course.offices[0]]
            for sign in life:
                charged.append(charges.get((charged[-1], sign), charged[-1]))
            seats = [(office, *place) for office, place in zip(charged, book.places(life, code))]
            pairs = list(zip(charged, book.dues(life, code)))
            self.assertEqual(course.seats(life, code), seats)
            self.assertEqual(course.run(life, code), pairs)
            for office in course.offices:
                self.assertEqual(course.own(office, life, code), [due if at == office else 0 for at, due in pairs])


class ComingTest(Case):
    def test_example(self):
        course = Course(two_rules(), ["x", "y"], {("x", "a"): "y"})
        self.assertEqual(course.coming(), [
            ("x", "", 0), ("y", "r", 0), ("x", "r", 0), ("y", "s", 1), ("x", "s", 0), ("y", "s", 0), ("y", "s", 2),
        ])
        course.coming().clear()
        self.assertEqual(len(course.coming()), 7)
        self.assertEqual(Course(Book([("r", Flat(AB, (0, 0)))]), ["x"]).coming(), [("x", "", 0), ("x", "r", 0)])

    def test_by_all_lives(self):
        rnd = seeded(32)
        for _ in range(40):
            course, _, _ = made_course(rnd, 2)
            found, layer = [course.start], [course.start]
            while layer:
                behind = []
                for seat in layer:
                    for rule, sign in course.turns():
                        other = course.step(seat, rule, sign)[1]
                        if other not in found:
                            found.append(other)
                            behind.append(other)
                layer = behind
            self.assertEqual(course.coming(), found)
            for seat in found:
                self.assertIsInstance(seat, tuple)


class LikeTest(Case):
    def test_examples(self):
        course = Course(two_rules(), ["x", "y", "z"], {("x", "a"): "y"})
        self.assertTrue(course.like("z", course.start, ("x", "s", 1)))
        self.assertTrue(course.like("x", ("y", "r", 0), ("y", "s", 2)))
        self.assertFalse(course.like("y", ("y", "r", 0), ("y", "s", 2)))
        self.assertFalse(course.like("x", ("y", "r", 0), ("x", "r", 0)))
        self.assertTrue(course.like("x", course.start, course.start))
        once = Course(Book([("r", Once(AB, "a", 5))]), ["x", "y"], {("y", "b"): "x"})
        self.assertFalse(once.like("x", ("y", "r", 0), ("y", "r", 1)))
        self.assertTrue(once.like("y", ("x", "r", 0), ("y", "r", 1)))
        self.assertFalse(once.like("y", ("y", "r", 0), ("y", "r", 1)))

    def test_late_difference(self):
        book = Book([("r", Upto(AB, "a", 3, 5))])
        course = Course(book, ["x", "y", "z"], {("x", "b"): "y", ("y", "b"): "z"})
        self.assertFalse(course.like("z", ("x", "r", 0), ("x", "r", 1)))
        self.assertTrue(course.like("x", ("y", "r", 0), ("z", "r", 3)))

    def test_made_up_courses(self):
        rnd = seeded(33)
        met = set()
        for _ in range(40):
            course, _, _ = made_course(rnd, 2)
            seats = course.coming()
            turns = course.turns()
            most = 3 if len(turns) < 6 else 2
            for _ in range(12):
                office, one, two = rnd.choice(course.offices), rnd.choice(seats), rnd.choice(seats)
                like = course.like(office, one, two)
                met.add(like)
                same = all(
                    own_from(course, office, one, track) == own_from(course, office, two, track)
                    for track in product(turns, repeat=most)
                )
                if like or same:
                    self.assertTrue(same)
                if not same:
                    self.assertFalse(like)
                self.assertEqual(like, like_by_rounds(course, office, seats)[one] == like_by_rounds(course, office, seats)[two])
        self.assertEqual(met, {True, False})


def like_by_rounds(course, office, seats):
    """For each seat that comes a number; like seats have the same one. Told apart round by round."""
    numbers = {seat: 0 for seat in seats}
    for _ in seats:
        kinds = {}
        told = {}
        for seat in seats:
            steps = [course.step(seat, rule, sign) for rule, sign in course.turns()]
            kind = tuple((due if seat[0] == office else 0, numbers[behind]) for due, behind in steps)
            told[seat] = kinds.setdefault(kind, len(kinds))
        numbers = told
    return numbers


if __name__ == "__main__":
    unittest.main()
