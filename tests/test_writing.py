"""Points 41, 42 and 44: what houses, events and happenings are written as, and that it is read alike."""

import unittest

from duehouse.books import Book
from duehouse.courses import Course
from duehouse.houses import House
from duehouse.judging import judge
from duehouse.kinds import After, Flat, Once, Spell, Upto, Waiting
from duehouse.practices import Practice
from duehouse.purses import Purse
from duehouse.reading import read_event, read_house
from duehouse.rules import Rule
from duehouse.sessions import Session
from duehouse.writing import write_event, write_happening, write_house
from tests.support import Case, all_pairs, made_course, made_history, made_house, seeded

AB = ("a", "b")


def parts_of(house):
    """All that a house tells of itself."""
    course, book = house.course, house.course.book_copy()
    rules = [(name, book.rule_named(name).rows, book.rule_named(name).words()) for name in book]
    purses = [house.purse(office) for office in course.offices]
    return (
        course.signs, course.rules, course.offices, rules, [book[pair] for pair in all_pairs(course.rules)],
        [course.charge(office, sign) for office in course.offices for sign in course.signs], house.late, house.reach,
        [str(house.practice(office)) for office in course.offices], list(house.ways()),
        [(purse.unit, purse.rest, purse.cap, purse.held_mark) for purse in purses],
    )


def written(rules, offices=("x",), charges=None, tables=None, **parts):
    book = Book(rules)
    for pair, table in (tables or {}).items():
        book[pair] = table
    return write_house(House(Course(book, offices, charges), **{"ways": [], **parts}))


class HouseTest(Case):
    def test_bare_house(self):
        self.assertEqual(written([("r", Flat(AB, (1, -5)))]), ["signs a b", "rule r flat 1 -5", "offices x"])

    def test_all_parts(self):
        rules = [("s", Upto(AB, "b", 1, 7)), ("r", Flat(AB, (1, 5))), ("t", Once(AB, "a", -3))]
        tables = {("s", "r"): (None, 0), ("r", "s"): (1,), ("t", "s"): (0, 0), ("t", "r"): (None, None), ("r", "t"): (0,)}
        charges = {("y", "b"): "z", ("y", "a"): "y", ("z", "a"): "x", ("x", "b"): "x"}
        practices = {"x": Practice(asks=2, again=1), "y": Practice(heeds="own", amends="ahead", stands="come", term=0, pays=3)}
        purses = {"x": Purse(unit=5, rest="drop", cap=99, held="drop"), "z": Purse(cap=1), "y": Purse()}
        ways = [("x", "y"), ("z", "y"), ("y", "z")]
        lines = written(rules, ("z", "y", "x"), charges, tables, practices=practices, purses=purses, ways=ways, late=0, reach=3)
        self.assertEqual(lines, [
            "signs a b",
            "rule s upto b 1 7",
            "rule r flat 1 5",
            "rule t once a -3",
            "bridge s r - 0",
            "bridge r s 1",
            "bridge t r - -",
            "offices z y x",
            "charge z a x",
            "charge y b z",
            "late 0",
            "reach 3",
            "practice y amends ahead",
            "practice y heeds own",
            "practice y stands come",
            "practice y term 0",
            "practice y pays 3",
            "practice x again 1",
            "practice x asks 2",
            "purse z cap 1",
            "purse x unit 5",
            "purse x rest drop",
            "purse x cap 99",
            "purse x held drop",
            "way x y",
            "way y z",
            "way z y",
        ])

    def test_each_part_left_out(self):
        rules = [("r", Flat(AB, (1, 5)))]
        ahead, behind = ["signs a b", "rule r flat 1 5", "offices x y"], ["way x y"]
        for parts, lines in [
            ({}, []), ({"late": 3}, ["late 3"]), ({"reach": 0}, ["reach 0"]),
            ({"practices": {"y": Practice(pays=0)}}, ["practice y pays 0"]),
            ({"purses": {"x": Purse(unit=2)}}, ["purse x unit 2"]), ({"purses": {"x": Purse(held="drop")}}, ["purse x held drop"]),
        ]:
            self.assertEqual(written(rules, ("x", "y"), ways=[("x", "y")], **parts), [*ahead, *lines, *behind])
        self.assertEqual(written(rules, ("x", "y"), ways=None), [*ahead, "way x y", "way y x"])

    def test_words_of_rules(self):
        for rule, words in [
            (Flat(AB, (0, -999)), "flat 0 -999"), (Waiting(AB, "b", 3, 7), "waiting b 3 7"), (Upto(AB, "a", 2, 999), "upto a 2 999"),
            (Spell(AB, "b", 3, -1), "spell b 3 -1"), (Once(AB, "b", 0), "once b 0"), (After(AB, "a", "b", 4), "after a b 4"),
            (After(AB, "b", "b", 4), "after b b 4"),
            (Rule(AB, (((1, 1), (-2, 0)), ((0, 1), (5, 1)))), "rows 1:1 -2:0 0:1 5:1"),
            (Rule(AB, Flat(AB, (1, 5)).rows), "rows 1:0 5:0"), (-Flat(AB, (1, 5)), "rows -1:0 -5:0"),
            (Flat(AB, (1, 5)) + Once(AB, "b", 1), "rows 1:0 6:1 1:1 5:1"),
        ]:
            lines = written([("r", rule)])
            self.assertEqual(lines[1], f"rule r {words}")
            house = read_house(lines)
            self.assertEqual(house.course.book_copy().rule_named("r").rows, rule.rows)
            self.assertEqual(house.course.book_copy().rule_named("r").words(), words)

    def test_the_house_stays_as_it_is(self):
        house = read_house(["signs a b", "rule r flat 1 5", "offices x y", "way x y"])
        before = parts_of(house)
        write_house(house).clear()
        self.assertEqual(parts_of(house), before)


class ReadAlikeTest(Case):
    def test_made_up_houses(self):
        rnd = seeded(421)
        for _ in range(120):
            house = made_house(rnd, made_course(rnd, 3, 3, 4, 3, dues=(0, 1, -2, 999)))
            lines = write_house(house)
            other = read_house(lines)
            self.assertIsInstance(other, House)
            self.assertEqual(write_house(other), lines)
            self.assertEqual(parts_of(other), parts_of(house))
            for line in lines:
                self.assertNotIn("  ", line)
                self.assertEqual(line, line.strip())

    def test_the_same_happens_in_both(self):
        rnd = seeded(422)
        for _ in range(25):
            house = made_house(rnd, made_course(rnd, dues=(0, 1, -2)))
            other = read_house(write_house(house))
            first, second = Session(house), Session(other)
            for event in [*made_history(rnd, house, 4, 12), ("close",)]:
                self.assertEqual(first.do(event), second.do(event))
            self.assertEqual([harm.mark for harm in judge(house)], [harm.mark for harm in judge(other)])

    def test_each_kind_in_one_house(self):
        signs = ("a", "b", "c")
        kinds = [
            Flat(signs, (1, 2, 3)), Waiting(signs, "c", 0, 7), Upto(signs, "b", 3, 7), Spell(signs, "c", 1, 7),
            Once(signs, "a", 7), After(signs, "c", "a", 7), Rule(signs, (((1, 0), (2, 0), (3, 0)),)),
        ]
        for first in kinds:
            for second in kinds:
                house = House(Course(Book([("old", first), ("new", second)]), ["x", "y"]))
                other = read_house(write_house(house))
                self.assertEqual(parts_of(other), parts_of(house))
                for name, kind in [("old", first), ("new", second)]:
                    self.assertIs(other.course.book_copy().rule_named(name).__class__, kind.__class__)


class LinesTest(Case):
    EVENTS = {
        ("tell", "north", 3, "ill"): "tell north 3 ill", ("amend", "x", 0, "newrules"): "amend x 0 newrules",
        ("void", "x", 12): "void x 12", ("read", 0): "read 0", ("day",): "day", ("appeal", "y", 59): "appeal y 59",
        ("hold", "x"): "hold x", ("free", "x"): "free x", ("run", "x"): "run x", ("close",): "close",
        ("tell", "day", -5, "tell"): "tell day -5 tell", ("read", -1): "read -1", ("void", "q", 1000): "void q 1000",
    }

    def test_events(self):
        for event, line in self.EVENTS.items():
            self.assertEqual(write_event(event), line)
            self.assertEqual(read_event(line), event)

    def test_happenings(self):
        for happening, line in [
            (("book", "x", 3, -12), "book x 3 -12"), (("book", "north", 0, 999), "book north 0 999"),
            (("letter", "x", "y", 120), "letter x y 120"), (("pay", "x", -7), "pay x -7"), (("pay", "y", 15), "pay y 15"),
        ]:
            self.assertEqual(write_happening(happening), line)

    def test_any_names_and_numbers(self):
        rnd = seeded(423)
        letters = "abcdefghijklmnopqrstuvwxyz"
        for _ in range(200):
            def name():
                return "".join(rnd.choice(letters) for _ in range(rnd.randint(1, 8)))

            number = rnd.choice([0, 1, -1, 59, 60, -60, 10 ** 30, rnd.randint(-10 ** 6, 10 ** 6)])
            for event in [
                ("tell", name(), number, name()), ("amend", name(), number, name()), ("void", name(), number), ("read", number),
                ("appeal", name(), number), ("hold", name()), ("free", name()), ("run", name()), ("day",), ("close",),
            ]:
                self.assertEqual(read_event(write_event(event)), event)


if __name__ == "__main__":
    unittest.main()
