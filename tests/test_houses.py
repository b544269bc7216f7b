"""Point 30 and the interface of houses: their parts, their refusals, and what is changed by with_*."""

import unittest

from duehouse.books import Book
from duehouse.courses import Course
from duehouse.errors import BadMark, BadNumber, SameName, Unknown
from duehouse.houses import House
from duehouse.kinds import Flat
from duehouse.practices import FULL, WORDS, Practice
from duehouse.purses import Purse
from duehouse.ways import Ways
from tests.support import WEAK, Case, all_pairs, made_course, made_house, seeded

AB = ("a", "b")
NUMBERS_THAT_ARE_NONE = [-1, 4, True, False, "1", 1.0, ()]


def flat_course(offices=("x", "y", "z")):
    return Course(Book([("r", Flat(AB, (1, 5)))]), offices)


def told_by(house):
    """All that a house tells of itself."""
    purses = [house.purse(office) for office in house.course.offices]
    return (
        house.late, house.reach, list(house.ways()), [str(house.practice(office)) for office in house.course.offices],
        [(purse.unit, purse.rest, purse.cap, purse.held_mark) for purse in purses],
    )


class PartsTest(Case):
    def test_nothing_told(self):
        course = flat_course()
        house = House(course)
        self.assertEqual(house.course.offices, ("x", "y", "z"))
        self.assertEqual((house.late, house.reach), (None, None))
        for office in "xyz":
            self.assertEqual(house.practice(office), Practice())
            purse = house.purse(office)
            self.assertEqual((purse.unit, purse.rest, purse.cap, purse.held_mark), (1, "keep", None, "keep"))
        self.assertEqual(house.ways(), Ways.all_of(["x", "y", "z"]))
        self.assertEqual(house.ways().offices, ("x", "y", "z"))

    def test_each_part_told(self):
        course = flat_course()
        house = House(course, practices={"y": Practice(term=2)})
        self.assertEqual([str(house.practice(office)) for office in "xyz"], ["full", "term=2", "full"])
        house = House(course, purses={"z": Purse(unit=3, rest="drop", cap=9, held="drop")})
        purse = house.purse("z")
        self.assertEqual((purse.unit, purse.rest, purse.cap, purse.held_mark), (3, "drop", 9, "drop"))
        self.assertEqual(house.purse("x").unit, 1)
        self.assertEqual(list(House(course, ways=[]).ways()), [])
        ways = [("z", "x"), ("x", "y"), ("z", "x")]
        self.assertEqual(list(House(course, ways=ways).ways()), [("x", "y"), ("z", "x")])
        for bound in [None, 0, 1, 2, 3]:
            self.assertEqual(House(course, late=bound).late, bound)
            self.assertEqual(House(course, late=bound).reach, None)
            self.assertEqual(House(course, reach=bound).reach, bound)
            self.assertEqual(House(course, reach=bound).late, None)
        self.assertEqual(list(House(flat_course(["x"])).ways()), [])

    def test_empty_parts_are_none(self):
        house = House(flat_course(), practices={}, purses={})
        self.assertEqual(told_by(house), told_by(House(flat_course())))
        self.assertEqual(told_by(House(flat_course(), practices=None, purses=None, ways=None)), told_by(house))

    def test_all_by_keyword(self):
        with self.assertRaises(TypeError):
            House(flat_course(), {})

    def test_a_purse_counts_by_its_marks(self):
        purse = Purse(unit=2, held="drop")
        purse.book(7)
        purse.run()
        purse.hold()
        house = House(flat_course(), purses={"x": purse})
        held = house.purse("x")
        self.assertEqual((held.unit, held.held_mark, held.due, held.paid, held.is_held), (2, "drop", 0, 0, False))
        purse.close()
        self.assertFalse(House(flat_course(), purses={"x": purse}).purse("x").closed)


class RefusedTest(Case):
    def test_keys(self):
        course, full, purse = flat_course(), Practice(), Purse()
        self.refused(Unknown, {"name": "q"}, House, course, practices={"x": full, "q": full})
        self.refused(Unknown, {"name": "q"}, House, course, purses={"x": purse, "q": purse})
        # Ascending, whatever the order of the keys.
        self.refused(Unknown, {"name": "b"}, House, course, practices={"q": full, "b": full, "x": full})
        self.refused(Unknown, {"name": "b"}, House, course, purses={"q": purse, "b": purse, "x": purse})

    def test_order(self):
        course, full, purse = flat_course(), Practice(), Purse()
        told = {
            "practices": {"q": full}, "purses": {"b": purse}, "ways": [("x", "c")], "late": 4, "reach": -1,
        }
        for word, error, fields in [
            ("practices", Unknown, {"name": "q"}),
            ("purses", Unknown, {"name": "b"}),
            ("ways", Unknown, {"name": "c"}),
            ("late", BadNumber, {"name": "late"}),
            ("reach", BadNumber, {"name": "reach"}),
        ]:
            self.refused(error, fields, House, course, **told)
            del told[word]
        House(course, **told)

    def test_ways(self):
        course = flat_course()
        for ways, error, name in [
            ([("q", "x")], Unknown, "q"), ([("x", "q")], Unknown, "q"), ([("q", "p")], Unknown, "q"),
            ([("x", "x")], SameName, "x"), ([("q", "q")], Unknown, "q"),
            ([("x", "y"), ("y", "y"), ("q", "x")], SameName, "y"),
        ]:
            self.refused(error, {"name": name}, House, course, ways=ways)

    def test_bounds(self):
        for bad in NUMBERS_THAT_ARE_NONE:
            self.refused(BadNumber, {"name": "late"}, House, flat_course(), late=bad)
            self.refused(BadNumber, {"name": "reach"}, House, flat_course(), reach=bad)

    def test_offices(self):
        house = House(flat_course())
        for bad in ["q", "", None, 0]:
            self.refused(Unknown, {"name": bad}, house.practice, bad)
            self.refused(Unknown, {"name": bad}, house.purse, bad)


class CopiesTest(Case):
    def test_what_is_passed(self):
        practice, purse, ways = Practice(term=1), Purse(unit=2), [("x", "y")]
        practices, purses = {"x": practice}, {"x": purse}
        house = House(flat_course(), practices=practices, purses=purses, ways=ways)
        before = told_by(house)
        practice["pays"] = 0
        purse.unit = 5
        purse.book(3)
        ways.append(("y", "x"))
        practices["y"] = practice
        purses["y"] = purse
        self.assertEqual(told_by(house), before)

    def test_what_is_returned(self):
        house = House(flat_course(), practices={"x": Practice(term=1)})
        before = told_by(house)
        practice, purse, ways = house.practice("x"), house.purse("x"), house.ways()
        practice["term"] = None
        purse.unit = 4
        purse.book(3)
        ways.stop("x", "y")
        ways -= Ways(["x", "y", "z"], [("y", "x")])
        self.assertEqual(told_by(house), before)
        self.assertEqual(house.purse("x").due, 0)


class ChangedTest(Case):
    def setUp(self):
        self.house = House(
            flat_course(), practices={"x": Practice(term=1), "y": Practice(again=2)}, purses={"y": Purse(cap=9)},
            ways=[("x", "y")], late=2, reach=3,
        )
        self.before = told_by(self.house)

    def tearDown(self):
        self.assertEqual(told_by(self.house), self.before)

    def test_with_mark(self):
        for word in WORDS:
            for value in [*WEAK[word], FULL[word]]:
                house = self.house.with_mark("x", word, value)
                self.assertIsInstance(house, House)
                self.assertEqual(house.practice("x")[word], value)
                self.assertEqual(house.practice("x").made_full(word), self.house.practice("x").made_full(word))
                self.assertEqual(house.practice("y"), self.house.practice("y"))
                self.assertEqual(told_by(house)[:3], self.before[:3])
                self.assertEqual(told_by(house)[4], self.before[4])

    def test_with_mark_refuses(self):
        self.refused(Unknown, {"name": "q"}, self.house.with_mark, "q", "term", 9)
        for word, value in [("late", 1), ("term", 4), ("term", True), ("again", 0), ("heeds", "back"), ("", None)]:
            self.refused(BadMark, {"word": word, "value": value}, self.house.with_mark, "x", word, value)

    def test_with_way(self):
        house = self.house.with_way("z", "x")
        self.assertEqual(list(house.ways()), [("x", "y"), ("z", "x")])
        self.assertEqual(told_by(house)[:2] + told_by(house)[3:], self.before[:2] + self.before[3:])
        self.assertEqual(told_by(self.house.with_way("x", "y")), self.before)
        for writer, reader, error, name in [
            ("q", "x", Unknown, "q"), ("x", "q", Unknown, "q"), ("q", "p", Unknown, "q"), ("x", "x", SameName, "x"),
            ("q", "q", Unknown, "q"),
        ]:
            self.refused(error, {"name": name}, self.house.with_way, writer, reader)

    def test_with_bounds(self):
        for late, reach in [(None, 0), (0, None), (3, 1), (None, None)]:
            house = self.house.with_bounds(late, reach)
            self.assertEqual((house.late, house.reach), (late, reach))
            self.assertEqual(told_by(house)[2:], self.before[2:])
        for bad in NUMBERS_THAT_ARE_NONE:
            self.refused(BadNumber, {"name": "late"}, self.house.with_bounds, bad, bad)
            self.refused(BadNumber, {"name": "reach"}, self.house.with_bounds, None, bad)

    def test_a_house_without_ways_stays_without(self):
        house = House(flat_course(), ways=[])
        for other in [house.with_mark("x", "term", 1), house.with_bounds(1, 1)]:
            self.assertEqual(list(other.ways()), [])

    def test_made_up(self):
        rnd = seeded(201)
        for _ in range(40):
            course = made_course(rnd)
            house = made_house(rnd, course)
            before = told_by(house)
            office = rnd.choice(course.offices)
            word = rnd.choice(WORDS)
            value = rnd.choice([*WEAK[word], FULL[word]])
            other = house.with_mark(office, word, value)
            self.assertEqual(other.practice(office)[word], value)
            for pair in all_pairs(course.offices):
                longer = other.with_way(*pair)
                self.assertIn(pair, longer.ways())
                self.assertTrue(other.ways() <= longer.ways())
                self.assertEqual(longer.practice(office), other.practice(office))
            self.assertEqual(told_by(house), before)


if __name__ == "__main__":
    unittest.main()
