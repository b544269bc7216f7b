"""Point 39: options, mended houses, and all least sets of options that make a house right."""

import unittest
from itertools import combinations

from duehouse.books import Book
from duehouse.courses import Course
from duehouse.errors import BadMark, SameName, TooMany, Unknown
from duehouse.harms import is_harmful, marks_of
from duehouse.houses import House
from duehouse.judging import judge
from duehouse.kinds import Flat
from duehouse.mending import mended, mends, options
from duehouse.practices import Practice
from duehouse.purses import Purse
from duehouse.rules import Rule
from tests.support import Case, made_course, made_house, seeded

AB = ("a", "b")


def flat_course(offices=("x", "y"), charges=None):
    return Course(Book([("r", Flat(AB, (1, 5))), ("s", Flat(AB, (100, 300)))]), offices, charges)


def told_by(house):
    offices = house.course.offices
    return (
        [str(house.practice(office)) for office in offices], list(house.ways()), house.late, house.reach,
        [house.purse(office).unit for office in offices],
    )


def by_search(house):
    """All least sets, by a search through all sets of options."""
    found = options(house)
    sets = [chosen for size in range(len(found) + 1) for chosen in combinations(found, size)]
    right = [chosen for chosen in sets if judge(mended(house, chosen))]
    return [chosen for chosen in right if not any(set(other) < set(chosen) for other in right)]


class OptionsTest(Case):
    def test_order(self):
        practices = {"x": Practice(asks=1, again=2), "z": Practice(stands="come", heeds="own")}
        house = House(flat_course(("z", "x", "y")), practices=practices, ways=[("x", "z"), ("z", "y")])
        self.assertEqual(options(house), [
            ("full", "z", "heeds"), ("full", "z", "stands"), ("full", "x", "again"), ("full", "x", "asks"),
            ("way", "x", "y"), ("way", "y", "x"), ("way", "y", "z"), ("way", "z", "x"),
        ])
        self.assertEqual(options(House(flat_course(("z", "x", "y")))), [])
        options(house).clear()
        self.assertEqual(len(options(house)), 8)

    def test_ways_that_are_heard_over_others_are_options_too(self):
        house = House(flat_course(("x", "y", "z")), ways=[("x", "y"), ("y", "z"), ("z", "x")])
        self.assertEqual(marks_of(house), [])
        self.assertEqual(options(house), [("way", "x", "z"), ("way", "y", "x"), ("way", "z", "y")])


class MendedTest(Case):
    def test_mended(self):
        practices = {"x": Practice(asks=1, again=2), "y": Practice(term=0)}
        house = House(flat_course(), practices=practices, purses={"y": Purse(unit=3)}, ways=[], late=1, reach=2)
        before = told_by(house)
        self.assertEqual(told_by(mended(house, [])), before)
        other = mended(house, (("full", "x", "asks"), ("way", "y", "x"), ("full", "y", "term")))
        self.assertIsInstance(other, House)
        self.assertEqual(told_by(other), (["again=2", "full"], [("y", "x")], 1, 2, [1, 3]))
        self.assertEqual(told_by(mended(house, options(house))), (["full", "full"], [("x", "y"), ("y", "x")], 1, 2, [1, 3]))
        self.assertEqual(told_by(house), before)
        self.assertIsNot(mended(house, []), house)

    def test_options_that_are_none(self):
        house = House(flat_course())
        self.refused(Unknown, {"name": "q"}, mended, house, [("full", "q", "term")])
        self.refused(BadMark, {"word": "hears", "value": None}, mended, house, [("full", "x", "hears")])
        self.refused(SameName, {"name": "x"}, mended, house, [("way", "x", "x")])


class MendsTest(Case):
    def test_right_house(self):
        self.assertEqual(mends(House(flat_course())), [()])
        house = House(flat_course(["x"]), practices={"x": Practice(again=1, heeds="own")})
        self.assertEqual(mends(house), [()])

    def test_examples(self):
        house = House(flat_course(["x"]), practices={"x": Practice(again=1, term=1, pays=0)})
        self.assertEqual(mends(house), [(("full", "x", "term"), ("full", "x", "pays"))])
        house = House(flat_course(), practices={"x": Practice(term=1)}, ways=[])
        self.assertEqual(mends(house), [(("full", "x", "term"), ("way", "y", "x"))])
        # x begins and is in charge for ever: nobody needs to write to y.
        house = House(flat_course(("x", "y", "z")), ways=[])
        self.assertEqual(mends(house), [
            (("way", "y", "x"), ("way", "z", "x")),
            (("way", "y", "x"), ("way", "z", "y")),
            (("way", "y", "z"), ("way", "z", "x")),
        ])

    def test_a_way_that_makes_a_mark_harmful(self):
        practices = {"x": Practice(term=1, stands="come")}
        house = House(flat_course(), practices=practices, ways=[], late=1, reach=0)
        self.assertEqual([is_harmful(house, mark) for mark in marks_of(house)], [False, False, True, False])
        other = mended(house, [("way", "y", "x")])
        self.assertEqual([is_harmful(other, mark) for mark in marks_of(other)], [True, True, False])
        self.assertEqual(mends(house), [(("full", "x", "stands"), ("full", "x", "term"), ("way", "y", "x"))])

    def test_what_needs_no_ways(self):
        dull = Rule(AB, (((3, 0), (3, 0)),))
        house = House(Course(Book([("r", dull)]), ["x", "y"]), practices={"x": Practice(term=1)}, ways=[])
        self.assertEqual(mends(house), [()])

    def test_too_many(self):
        course, weak = flat_course(("x", "y", "z")), Practice(again=1, heeds="own", stands="come")
        house = House(course, practices={"x": weak}, ways=[("x", "y")])
        self.assertEqual(len(options(house)), 8)
        self.assertEqual(mends(house), by_search(house))
        house = House(course, practices={"x": weak}, ways=[])
        self.assertEqual(len(options(house)), 9)
        self.refused(TooMany, {"limit": 8}, mends, house)
        # Though the house is right.
        nine = {"x": Practice(again=1, heeds="own"), "y": Practice(again=1, heeds="own", term=0, pays=0, asks=0, amends="ahead", stands="come")}
        house = House(flat_course(), practices=nine)
        self.assertTrue(judge(house))
        self.refused(TooMany, {"limit": 8}, mends, house)

    def test_the_house_stays_as_it_is(self):
        house = House(flat_course(), practices={"x": Practice(term=1)}, ways=[])
        before = told_by(house)
        first = mends(house)
        self.assertEqual(mends(house), first)
        first.clear()
        self.assertNotEqual(mends(house), [])
        self.assertEqual(told_by(house), before)

    def test_by_search(self):
        rnd, sizes = seeded(401), set()
        searched = 0
        while searched < 60:
            house = made_house(rnd, made_course(rnd, 2, 2, 3, 3, dues=(0, 0, 1, -1)))
            if len(options(house)) > 5:
                continue
            searched += 1
            told = mends(house)
            self.assertEqual(told, by_search(house))
            sizes.update(len(chosen) for chosen in told)
            for chosen in told:
                self.assertIsInstance(chosen, tuple)
        self.assertTrue({0, 1, 2, 3} <= sizes)


if __name__ == "__main__":
    unittest.main()
