"""Point 45: what a desk answers to each line, and that a refused or bad line changes nothing."""

import inspect
import unittest

from duehouse.books import Book
from duehouse.courses import Course
from duehouse.desk import Desk
from duehouse.errors import BadLine, DueError
from duehouse.harms import is_harmful, marks_of
from duehouse.houses import House
from duehouse.kinds import Flat
from duehouse.practices import Practice
from duehouse.purses import Purse
from duehouse.sessions import Session
from duehouse.writing import write_event, write_happening, write_house
from tests.support import Case, made_course, made_event, made_house, seeded

AB = ("a", "b")
TEXT = [
    "# two offices", "signs a b", "rule r flat 1 5", "rule s flat 100 300", "", "offices x y", "charge x b y",
    "practice x term 1", "way x y",
]
QUESTIONS = ["life", "code", "file x", "file y", "wrong", "paid x", "paid y", "verdict", "", "# no", "#"]


def desk_of(**parts):
    course = Course(Book([("r", Flat(AB, (1, 5))), ("s", Flat(AB, (100, 300)))]), ["x", "y"], {("x", "b"): "y"})
    return Desk(House(course, **parts))


def said(desk, *lines):
    return [answer for line in lines for answer in desk.say(line)]


def told_by(desk):
    """All that a desk tells of itself."""
    return [desk.say(line) for line in QUESTIONS]


class EventsTest(Case):
    def test_events(self):
        desk = Desk.from_lines(TEXT)
        for line, answer in [
            ("day", ["book x 0 1"]),
            ("tell x 1 b", ["letter x y 1"]),
            ("day", ["book x 1 5"]),
            ("read 0", ["done"]),
            ("day", ["book y 2 1"]),
            ("amend y 0 s", ["book y 2 99"]),
            ("amend x 0 s", ["book x 0 99", "book x 1 295", "letter x y 3"]),
            ("settle", ["done"]),
            ("run x", ["pay x 400"]),
            ("run x", ["done"]),
            ("hold y", ["done"]),
            ("run y", ["done"]),
            ("void x 3", ["book x 0 -99", "book x 1 -295", "letter x y 4"]),
            ("appeal x 5", ["done"]),
            ("free y", ["done"]),
            ("close", ["pay x -394", "pay y 100"]),
            ("settle", ["done"]),
        ]:
            self.assertEqual(desk.say(line), answer, line)

    def test_close_without_anything(self):
        desk = desk_of()
        self.assertEqual(desk.say("close"), ["done"])
        self.assertEqual([desk.say(line) for line in ["settle", "day", "close"]], [["done"], ["refused Closed"], ["refused Closed"]])

    def test_settle(self):
        desk = desk_of()
        said(desk, "day", "tell y 0 b")
        answer = ["book x 0 4", "letter x y 1"]
        self.assertEqual(desk.say("settle"), answer)
        self.assertEqual(desk.say("settle"), ["done"])

    def test_refused(self):
        desk = Desk.from_lines([*TEXT[:7], "late 0", "reach 1", *TEXT[7:]])
        said(desk, "day", "day", "day", "tell x 3 b")
        before = told_by(desk)
        for line, name in [
            ("tell q 0 b", "Unknown"), ("tell x 60 b", "BadNumber"), ("tell x -1 b", "BadNumber"), ("tell x 0 q", "Unknown"),
            ("tell x 0 b", "TooLate"), ("tell x 2 b", "TooLate"), ("amend x 1 s", "TooLate"), ("amend x 2 q", "Unknown"),
            ("void x 2", "NoEntry"), ("void x 0", "NoEntry"), ("void x -1", "NoEntry"), ("void q 1", "Unknown"), ("read 1", "NoLetter"),
            ("read -1", "NoLetter"), ("appeal x 1", "TooLate"), ("appeal x 99", "BadNumber"), ("appeal q 1", "Unknown"),
            ("hold q", "Unknown"), ("free q", "Unknown"), ("run q", "Unknown"), ("tell q 99 q", "Unknown"),
        ]:
            self.assertEqual(desk.say(line), [f"refused {name}"], line)
            self.assertEqual(told_by(desk), before)
        for _ in range(57):
            desk.say("day")
        before = told_by(desk)
        self.assertEqual(desk.say("day"), ["refused TooMany"])
        self.assertEqual(told_by(desk), before)
        said(desk, "close")
        before = told_by(desk)
        for line in ["tell x 59 b", "day", "close", "run x", "hold q", "read 0", "void x 9"]:
            self.assertEqual(desk.say(line), ["refused Closed"])
            self.assertEqual(told_by(desk), before)

    def test_too_many_entries(self):
        desk = desk_of(ways=[])
        for _ in range(120):
            self.assertEqual(desk.say("tell x 5 b"), ["done"])
        self.assertEqual(desk.say("tell x 5 b"), ["refused TooMany"])


class QuestionsTest(Case):
    def test_before_anything(self):
        desk = desk_of()
        self.assertEqual(told_by(desk), [["life"], ["code"], ["done"], ["done"], ["done"], ["paid x 0"], ["paid y 0"], ["right"], [], [], []])

    def test_after_some_days(self):
        desk = desk_of(ways=[("x", "y")], practices={"x": Practice(term=1)})
        said(desk, "tell x 1 b", "day", "day", "amend y 2 s", "day", "settle", "tell x 0 b")
        self.assertEqual(desk.say("life"), ["life b b a"])
        self.assertEqual(desk.say("code"), ["code r r s"])
        self.assertEqual(desk.say("file x"), ["row 0 a r x - 0 1 1", "row 1 b r x r 0 5 5", "row 2 a r y r 0 0 0"])
        self.assertEqual(desk.say("file y"), ["row 0 a r x - 0 0 0", "row 1 b r x r 0 0 0", "row 2 a s y r 0 100 100"])
        self.assertEqual(desk.say("wrong"), ["wrong x 0 1 5", "wrong x 1 5 0", "wrong y 1 0 5"])
        said(desk, "settle")
        self.assertEqual(desk.say("wrong"), ["wrong x 0 1 5", "wrong x 1 5 0"])
        self.assertEqual(desk.say("file y"), ["row 0 b r x - 0 0 0", "row 1 b r y r 0 5 5", "row 2 a s y r 0 100 100"])
        self.assertEqual(desk.say("verdict"), ["harmful x term 1", "harmful x hears y"])

    def test_due_and_booked(self):
        desk = desk_of(practices={"x": Practice(pays=0)})
        said(desk, "day", "tell x 0 b")
        self.assertEqual(desk.say("file x"), ["row 0 b r x - 0 5 1"])
        self.assertEqual(desk.say("wrong"), ["wrong x 0 1 5"])

    def test_paid(self):
        desk = desk_of(purses={"x": Purse(unit=2)})
        said(desk, "day", "day", "day", "run x")
        self.assertEqual(desk.say("paid x"), ["paid x 2"])
        said(desk, "tell x 0 b", "amend x 1 s", "close")
        self.assertEqual((desk.say("paid x"), desk.say("paid y")), (["paid x 5"], ["paid y 200"]))
        desk = desk_of()
        said(desk, "tell x 0 b", "day", "run x", "void x 1")
        self.assertEqual((desk.say("run x"), desk.say("paid x")), (["pay x -4"], ["paid x 1"]))

    def test_verdict(self):
        rnd, right = seeded(441), set()
        for _ in range(40):
            house = made_house(rnd, made_course(rnd))
            desk = Desk(house)
            expected = [
                f"harmful {office} {word} {value}" for office, word, value in marks_of(house) if is_harmful(house, (office, word, value))
            ]
            self.assertEqual(desk.say("verdict"), expected or ["right"])
            desk.say("day")
            self.assertEqual(desk.say("verdict"), expected or ["right"])
            right.add(expected == [])
        self.assertEqual(right, {True, False})

    def test_questions_change_nothing(self):
        desk = desk_of()
        said(desk, "day", "tell x 0 b")
        self.assertEqual(told_by(desk), told_by(desk))
        self.assertEqual(desk.say("read 0"), ["letter y x 1"])

    def test_answers_are_new(self):
        desk = desk_of()
        for line in ["day", "verdict", "file x", "life"]:
            desk.say(line).clear()
        self.assertEqual(desk.say("file x"), ["row 0 a r x - 0 1 1"])


class BadLineTest(Case):
    def test_bad_lines(self):
        desk = desk_of()
        said(desk, "day", "tell x 0 b")
        before = told_by(desk)
        for line, word in [
            (" ", 1), (" day", 1), ("Day", 1), ("days", 1), ("book x 0 1", 1), ("harmful", 1), ("right", 1), ("done", 1), ("- day", 1),
            ("signs a b", 1), ("way x y", 1), ("settle ", 2), ("settle now", 2), ("settle x y", 2), ("life x", 2), ("code 0", 2),
            ("life ", 2), ("wrong x", 2), ("verdict x", 2), ("file", 2), ("file ", 2), ("file q", 2), ("file X", 2), ("file 0", 2),
            ("file q x", 2), ("file x y", 3), ("file x ", 3), ("paid", 2), ("paid q", 2), ("paid x 1", 3), ("tell", 2), ("tell x", 3),
            ("tell x 0", 4), ("tell x a b", 3), ("tell x 0 b b", 5), ("tell X 0 b", 2), ("void x y", 3), ("read", 2), ("read x", 2),
            ("day 1", 2), ("close x", 2), ("hold 0", 2), ("run x x", 3), ("appeal x", 3), ("tell x 00 b", 3),
        ]:
            with self.subTest(line):
                self.refused(BadLine, {"line": 1, "word": word}, desk.say, line)
                self.assertEqual(told_by(desk), before)

    def test_bad_lines_behind_close(self):
        desk = desk_of()
        desk.say("close")
        self.refused(BadLine, {"line": 1, "word": 3}, desk.say, "tell x")
        self.refused(BadLine, {"line": 1, "word": 1}, desk.say, "open")
        self.refused(BadLine, {"line": 1, "word": 2}, desk.say, "file q")

    def test_from_lines(self):
        self.assertIsInstance(Desk.from_lines(TEXT), Desk)
        self.refused(BadLine, {"line": 1, "word": 1}, Desk.from_lines, [])
        self.refused(BadLine, {"line": 2, "word": 3}, Desk.from_lines, ["", "signs a a"])

        class Other(Desk):
            pass

        self.assertIsInstance(Other.from_lines(TEXT), Other)


class ListingTest(Case):
    def test_listing(self):
        desk = Desk.from_lines(TEXT)
        lines = ["# a day", "", "day", "tell x 1 b", "file x", "life", "settle", "read 9"]
        self.assertEqual(list(desk.listing(lines)), [
            "> # a day", "> ", "> day", "  book x 0 1", "> tell x 1 b", "  letter x y 1", "> file x", "  row 0 a r x - 0 1 1",
            "> life", "  life a", "> settle", "  done", "> read 9", "  refused NoLetter",
        ])
        self.assertEqual(list(desk.listing([])), [])

    def test_is_a_generator(self):
        desk = desk_of()
        self.assertTrue(inspect.isgenerator(desk.listing(["day"])))
        self.assertEqual(desk.say("life"), ["life"])

    def test_each_line_in_its_time(self):
        desk = desk_of()
        rows = desk.listing(["day", "day", "tell x 0 b", "run x"])
        self.assertEqual(desk.say("life"), ["life"])
        self.assertEqual(next(rows), "> day")
        self.assertEqual(desk.say("life"), ["life a"])
        self.assertEqual(next(rows), "  book x 0 1")
        self.assertEqual(desk.say("life"), ["life a"])
        self.assertEqual(next(rows), "> day")
        self.assertEqual(desk.say("life"), ["life a a"])
        self.assertEqual(next(rows), "  book x 1 1")
        # What is said in between counts.
        self.assertEqual(desk.say("tell x 2 b"), ["letter x y 1"])
        self.assertEqual(next(rows), "> tell x 0 b")
        self.assertEqual(next(rows), "  book x 0 4")
        self.assertEqual(desk.say("run x"), ["pay x 5"])
        rows.close()
        self.assertEqual(desk.say("paid x"), ["paid x 5"])

    def test_left_off_behind_its_own_line(self):
        desk = desk_of()
        rows = desk.listing(["day", "day"])
        next(rows)
        del rows
        self.assertEqual(desk.say("life"), ["life a"])

    def test_a_bad_line_among_them(self):
        desk = desk_of()
        rows = desk.listing(["day", "life", "nothing", "day"])
        self.assertEqual([next(rows) for _ in range(4)], ["> day", "  book x 0 1", "> life", "  life a"])
        self.refused(BadLine, {"line": 1, "word": 1}, next, rows)
        self.assertEqual(list(rows), [])
        self.assertEqual(desk.say("life"), ["life a"])


class MadeUpTest(Case):
    def test_against_a_session(self):
        rnd, names = seeded(442), set()
        for _ in range(40):
            house = made_house(rnd, made_course(rnd, dues=(0, 1, -2)))
            desk, session = Desk.from_lines(write_house(house)), Session(house)
            for _ in range(30):
                event = made_event(rnd, session, 8, house.course.offices)
                if rnd.random() < 0.2:
                    event = (rnd.choice(["hold", "free", "run"]), rnd.choice([*house.course.offices, "q"]))
                try:
                    answer = [write_happening(happening) for happening in session.do(event)] or ["done"]
                except DueError as error:
                    answer = [f"refused {error.__class__.__name__}"]
                    names.add(error.__class__.__name__)
                self.assertEqual(desk.say(write_event(event)), answer)
                wrong = [f"wrong {office} {day} {booked} {due}" for office, day, booked, due in session.wrong()]
                self.assertEqual(desk.say("wrong"), wrong or ["done"])
                for office in house.course.offices:
                    file = session.file(office)
                    rows = []
                    for day in range(file.days):
                        sign, rule, (seated, name, state), due = file.row(day)
                        rows.append(f"row {day} {sign} {rule} {seated} {name or '-'} {state} {due} {file.booked(day)}")
                    self.assertEqual(desk.say(f"file {office}"), rows or ["done"])
                    self.assertEqual(desk.say(f"paid {office}"), [f"paid {office} {session.purse(office).paid}"])
            truth, course = session.truth(), house.course
            self.assertEqual(desk.say("life"), [" ".join(["life", *truth.life_of(session.days, course.signs[0])])])
            self.assertEqual(desk.say("code"), [" ".join(["code", *truth.code_of(session.days, course.rules[0])])])
            closing = [write_happening(happening) for happening in session.do(("close",))]
            self.assertEqual(desk.say("close"), closing or ["done"])
        self.assertTrue({"TooLate", "Unknown"} <= names)


if __name__ == "__main__":
    unittest.main()
