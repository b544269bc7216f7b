"""Points 18 to 21, and of point 32 the appeal: files, what they take up again, and what they book."""

import unittest

from duehouse.books import Book
from duehouse.courses import Course
from duehouse.errors import BadEntry, BadNumber, Clash, TooLate, Unknown
from duehouse.files import File
from duehouse.kinds import Flat, Once, Upto, Waiting
from duehouse.practices import Practice
from duehouse.sheets import Sheet
from tests.bywords import ByWords
from tests.support import Case, made_course, made_practice, seeded

AB = ("a", "b")


def flat_course(charges=None, offices=("x",)):
    """Each day gives 1 for a, 5 for b under r, and 100 or 300 under s."""
    return Course(Book([("r", Flat(AB, (1, 5))), ("s", Flat(AB, (100, 300)))]), offices, charges)


def once_course():
    """The first b gives 7: a change goes on up to the next b."""
    return Course(Book([("r", Once(AB, "b", 7))]), ["x"])


def passed(course, office, practice, days, entries=()):
    """A file that reads these entries and then passes so many days."""
    file = File(course, office, practice)
    for entry in entries:
        file.read(entry)
    for _ in range(days):
        file.pass_day()
    return file


def told_by(file):
    """All that a file tells of itself."""
    days = range(file.days)
    return (
        file.office, file.days, file.now, [file.row(day) for day in days], [file.booked(day) for day in days],
        file.total(), file.entries(), file.reckoned(), [file.view(day) for day in range(60)],
    )


class OrdinaryTest(Case):
    def test_empty_file(self):
        course = flat_course(offices=("x", "y"))
        file = File(course, "y", Practice())
        self.assertEqual((file.office, file.days, file.now), ("y", 0, course.start))
        self.assertEqual((file.total(), file.entries(), file.reckoned()), (0, [], ()))
        self.assertEqual([file.view(0), file.view(59)], [("a", "r")] * 2)

    def test_office(self):
        for bad in ["z", "", None, True, 0, []]:
            self.refused(Unknown, {"name": bad}, File, flat_course(), bad, Practice())

    def test_days_pass_by_the_view(self):
        file = File(flat_course(), "x", Practice())
        self.assertEqual(file.pass_day(), 1)
        self.assertEqual(file.read((1, "sign", 1, "b")), [])
        self.assertEqual(file.read((2, "rule", 2, "s")), [])
        self.assertEqual((file.view(1), file.view(2), file.view(59)), (("b", "r"), ("a", "s"), ("a", "s")))
        self.assertEqual([file.pass_day(), file.pass_day()], [5, 100])
        self.assertEqual(file.row(0), ("a", "r", ("x", "", 0), 1))
        self.assertEqual(file.row(1), ("b", "r", ("x", "r", 0), 5))
        self.assertEqual(file.row(2), ("a", "s", ("x", "r", 0), 100))
        self.assertEqual((file.days, file.now, file.total()), (3, ("x", "s", 0), 106))
        self.assertEqual([file.booked(day) for day in range(3)], [1, 5, 100])
        self.assertEqual(file.reckoned(), ())

    def test_own_dues_only(self):
        course = flat_course({("x", "b"): "y", ("y", "b"): "x"}, ("x", "y"))
        told = [(1, "sign", 0, "b"), (2, "sign", 2, "b")]
        first, second = passed(course, "x", Practice(), 4, told), passed(course, "y", Practice(), 4, told)
        self.assertEqual([first.booked(day) for day in range(4)], [5, 0, 0, 1])
        self.assertEqual([second.booked(day) for day in range(4)], [0, 1, 5, 0])
        self.assertEqual((first.now, second.now), (("x", "r", 0), ("x", "r", 0)))
        self.assertEqual(second.row(1), ("a", "r", ("y", "r", 0), 1))
        self.assertEqual(second.row(0), ("b", "r", ("x", "", 0), 0))
        # A changed charge takes a day from one office and gives it to the other one.
        self.assertEqual(first.read((3, "void", 1)), [(0, -4), (1, 1), (2, 5), (3, -1)])
        self.assertEqual(second.read((3, "void", 1)), [(1, -1), (2, -5), (3, 1)])

    def test_late_entries(self):
        file = passed(flat_course(), "x", Practice(), 3)
        self.assertEqual(file.read((1, "sign", 1, "b")), [(1, 4)])
        self.assertEqual(file.reckoned(), (1,))
        self.assertEqual(file.read((2, "rule", 0, "s")), [(0, 99), (1, 295), (2, 99)])
        self.assertEqual(file.reckoned(), (0, 1, 2))
        self.assertEqual(file.now, ("x", "s", 0))
        self.assertEqual(file.read((3, "void", 2)), [(0, -99), (1, -295), (2, -99)])
        self.assertEqual(file.read((4, "void", 3)), [(0, 99), (1, 295), (2, 99)])
        self.assertEqual((file.row(1), file.booked(1), file.total()), (("b", "s", ("x", "s", 0), 300), 300, 500))
        self.assertEqual(file.entries(), [(1, "sign", 1, "b"), (2, "rule", 0, "s"), (3, "void", 2), (4, "void", 3)])

    def test_a_void_read_ahead_of_what_it_withdraws(self):
        file = passed(flat_course(), "x", Practice(), 2)
        self.assertEqual(file.read((2, "void", 1)), [])
        self.assertEqual(file.read((1, "sign", 0, "b")), [])
        self.assertEqual((file.view(0), file.reckoned()), (("a", "r"), ()))
        self.assertEqual(file.read((3, "void", 2)), [(0, 4)])
        self.assertEqual(file.entries(), [(1, "sign", 0, "b"), (2, "void", 1), (3, "void", 2)])

    def test_the_same_view_is_no_cause(self):
        file = passed(flat_course(), "x", Practice(), 3)
        self.assertEqual(file.read((5, "sign", 1, "b")), [(1, 4)])
        self.assertEqual(file.read((4, "sign", 1, "a")), [])
        self.assertEqual(file.reckoned(), ())
        self.assertEqual(file.read((6, "sign", 1, "b")), [])
        self.assertEqual(file.read((7, "sign", 0, "a")), [])
        self.assertEqual(file.read((8, "rule", 1, "r")), [])
        self.assertEqual(file.reckoned(), ())

    def test_read_again(self):
        file = passed(flat_course(), "x", Practice(), 3)
        file.read((1, "sign", 0, "b"))
        self.assertEqual(file.reckoned(), (0,))
        self.assertEqual(file.read((1, "sign", 0, "b")), [])
        self.assertEqual(file.reckoned(), ())
        self.assertEqual((file.entries(), file.booked(0)), ([(1, "sign", 0, "b")], 5))

    def test_a_change_stops_or_goes_on(self):
        file = passed(once_course(), "x", Practice(), 6, [(1, "sign", 3, "b")])
        self.assertEqual(file.read((2, "sign", 1, "b")), [(1, 7), (3, -7)])
        # Day 3 leads to the state to which it led before: day 4 is not reckoned again.
        self.assertEqual(file.reckoned(), (1, 2, 3))
        self.assertEqual(file.read((3, "sign", 3, "a")), [])
        self.assertEqual(file.reckoned(), (3,))
        self.assertEqual(file.read((4, "sign", 1, "a")), [(1, -7)])
        self.assertEqual(file.reckoned(), (1, 2, 3, 4, 5))
        self.assertEqual(file.now, ("x", "r", 0))

    def test_more_than_sixty_days_do_no_harm(self):
        file = passed(flat_course(), "x", Practice(), 62, [(1, "rule", 59, "s")])
        self.assertEqual((file.days, file.booked(58), file.booked(61)), (62, 1, 100))


class RefusedTest(Case):
    def test_order_of_refusals(self):
        file = passed(flat_course(), "x", Practice(), 2, [(1, "sign", 0, "b"), (2, "rule", 1, "s"), (3, "void", 2)])
        before = told_by(file)
        for bad in [
            (1, "sign", 0), (0, "sign", 0, "b"), (1000, "sign", 0, "b"), (True, "sign", 0, "b"), (1, "sign", 60, "q"),
            (1, "sign", -1, "q"), (1, "sign", True, "q"), (1, "sign", 0, "Q"), (1, "rule", 0, ""), (1, "day", 0, "q"),
            (3, "void", 3), (3, "void", 0), (3, "void", 1, "q"), [4, "sign", 0, "b"], None, "", (), 5,
            (4, "sign", 0, None),
        ]:
            with self.subTest(bad):
                self.refused(BadEntry, {"entry": bad}, file.read, bad)
        self.refused(Unknown, {"name": "q"}, file.read, (1, "sign", 0, "q"))
        self.refused(Unknown, {"name": "r"}, file.read, (1, "sign", 0, "r"))
        self.refused(Unknown, {"name": "q"}, file.read, (9, "sign", 0, "q"))
        self.refused(Unknown, {"name": "q"}, file.read, (2, "rule", 1, "q"))
        self.refused(Unknown, {"name": "a"}, file.read, (9, "rule", 1, "a"))
        self.refused(Clash, {"number": 1}, file.read, (1, "sign", 0, "a"))
        self.refused(Clash, {"number": 1}, file.read, (1, "rule", 0, "r"))
        self.refused(Clash, {"number": 2}, file.read, (2, "void", 1))
        self.refused(Clash, {"number": 3}, file.read, (3, "void", 1))
        self.assertEqual(told_by(file), before)

    def test_reckoned_stays_behind_a_refusal(self):
        file = passed(flat_course(), "x", Practice(), 2)
        file.read((1, "sign", 0, "b"))
        for bad in [(1, "sign", 0, "a"), (9, "sign", 0, "q"), None]:
            with self.assertRaises((Clash, Unknown, BadEntry)):
                file.read(bad)
            self.assertEqual(file.reckoned(), (0,))

    def test_days(self):
        file = File(flat_course(), "x", Practice())
        for days in range(3):
            for call in [file.row, file.booked]:
                for bad in [-1, days, days + 1, 59, True, False, None, "0", 0.0]:
                    self.refused(BadNumber, {"name": "day"}, call, bad)
                for day in range(days):
                    call(day)
            file.pass_day()
        for bad in [-1, 60, True, False, None, "0"]:
            self.refused(BadNumber, {"name": "day"}, file.view, bad)

    def test_appeals(self):
        file = passed(flat_course(), "x", Practice(), 3)
        for bad in [-1, 60, True, False, None, "0", []]:
            self.refused(BadNumber, {"name": "day"}, file.appeal, bad)
        for day in [0, 2, 3, 59]:
            self.assertIsNone(file.appeal(day))
        for term in range(4):
            file = passed(flat_course(), "x", Practice(term=term), 6)
            for bad in [-1, 60, True]:
                self.refused(BadNumber, {"name": "day"}, file.appeal, bad)
            for day in range(60):
                if 6 - day > term:
                    self.refused(TooLate, {"day": day}, file.appeal, day)
                else:
                    self.assertIsNone(file.appeal(day))


class MarksTest(Case):
    """Each weak mark alone."""

    def test_again(self):
        told = [(1, "sign", 9, "b")]
        for again, reckoned, booked in [
            (1, (1,), [(1, 7)]),
            (2, (1, 2), [(1, 7)]),
            (3, (1, 2, 3), [(1, 7)]),
            (None, (1, 2, 3, 4, 5, 6, 7, 8, 9), [(1, 7), (9, -7)]),
        ]:
            file = passed(once_course(), "x", Practice(again=again), 11, told)
            self.assertEqual(file.read((2, "sign", 1, "b")), booked)
            self.assertEqual(file.reckoned(), reckoned)
            # The row of the day behind keeps its old seat, so the rows do not hang together.
            self.assertEqual(file.row(4)[2][2], 1 if again is None else 0)
        for again, reckoned in [(1, (7,)), (2, (7, 8)), (3, (7, 8)), (None, (7, 8))]:
            # It stops by itself within the days for which it may go on.
            file = passed(once_course(), "x", Practice(again=again), 11, told)
            file.read((2, "sign", 8, "b"))
            file.read((3, "sign", 7, "b"))
            self.assertEqual(file.reckoned(), reckoned)

    def test_again_behind_each_cause(self):
        # Two causes by one reading: a rule for the days 2 and 3, then the old one.
        book = Book([("r", Upto(AB, "a", 3, 1)), ("s", Upto(AB, "a", 3, 10))])
        book["r", "s"] = (1, 2, 3, 3)
        book["s", "r"] = (1, 2, 3, 3)
        course = Course(book, ["x"])
        for again in [1, 2, 3, None]:
            file = passed(course, "x", Practice(again=again), 8, [(1, "rule", 4, "r"), (2, "rule", 2, "r")])
            words = ByWords(course, "x", Practice(again=again))
            for entry in file.entries():
                words.read(entry)
            for _ in range(8):
                words.pass_day()
            self.assertEqual(file.read((3, "rule", 2, "s")), words.read((3, "rule", 2, "s")))
            self.assertEqual(file.reckoned(), words.last)
            self.assertEqual(file.reckoned(), {1: (2, 3), 2: (2, 3, 4), 3: (2, 3, 4), None: (2, 3, 4)}[again])

    def test_amends(self):
        file = passed(flat_course(), "x", Practice(amends="ahead"), 3)
        self.assertEqual(file.read((1, "rule", 1, "s")), [])
        self.assertEqual((file.reckoned(), file.view(1), file.view(3)), ((), ("a", "s"), ("a", "s")))
        self.assertEqual(file.row(1), ("a", "r", ("x", "r", 0), 1))
        # A day reckoned again keeps the rule of its row, a new day has that of the sheet.
        self.assertEqual(file.read((2, "sign", 1, "b")), [(1, 4)])
        self.assertEqual(file.row(1)[:2], ("b", "r"))
        self.assertEqual((file.pass_day(), file.row(3)[1]), (100, "s"))
        self.assertEqual(file.read((3, "sign", 3, "b")), [(3, 200)])
        self.assertEqual(file.read((4, "void", 1)), [])
        self.assertEqual(file.read((5, "sign", 3, "a")), [(3, -200)])
        self.assertEqual(file.row(3)[:2], ("a", "s"))

    def test_heeds(self):
        course = flat_course({("x", "b"): "y", ("y", "b"): "x"}, ("x", "y"))
        for office, own, other in [("x", 0, 1), ("y", 1, 0)]:
            file = passed(course, office, Practice(heeds="own"), 3, [(1, "sign", 0, "b")])
            file.read((2, "sign", other, "b" if other else "a"))
            self.assertEqual(file.reckoned(), ())
            file = passed(course, office, Practice(heeds="own"), 3, [(1, "sign", 0, "b")])
            file.read((2, "sign", own, "b" if own else "a"))
            self.assertEqual(file.reckoned()[:1], (own,))
            # Rules are heeded whoever is in charge.
            file = passed(course, office, Practice(heeds="own"), 3, [(1, "sign", 0, "b")])
            file.read((2, "rule", 0, "s"))
            self.assertEqual(file.reckoned(), (0, 1, 2))

    def test_heeds_by_the_seat_of_the_row(self):
        # By the sheet y is in charge of day 1, but x still is by the row.
        course = flat_course({("x", "b"): "y"}, ("x", "y"))
        file = passed(course, "y", Practice(heeds="own"), 3)
        file.read((1, "sign", 0, "b"))
        self.assertEqual((file.row(1)[2][0], file.reckoned()), ("x", ()))
        self.assertEqual(file.read((2, "sign", 1, "b")), [])
        self.assertEqual((file.reckoned(), file.view(1), file.row(1)[0]), ((), ("b", "r"), "a"))

    def test_stands(self):
        file = passed(flat_course(), "x", Practice(stands="come"), 3)
        self.assertEqual(file.read((5, "sign", 1, "b")), [(1, 4)])
        self.assertEqual(file.read((2, "sign", 1, "a")), [(1, -4)])
        # Its first reading counts.
        self.assertEqual(file.read((5, "sign", 1, "b")), [])
        self.assertEqual(file.view(1), ("a", "r"))
        self.assertEqual(file.read((6, "void", 2)), [(1, 4)])
        self.assertEqual(file.read((7, "void", 6)), [(1, -4)])
        self.assertEqual(file.entries(), [(2, "sign", 1, "a"), (5, "sign", 1, "b"), (6, "void", 2), (7, "void", 6)])
        # The greatest day still counts for rules, whatever was read last; on one day the last one read.
        self.assertEqual(file.read((9, "rule", 1, "s")), [(1, 99), (2, 99)])
        self.assertEqual(file.read((10, "rule", 0, "r")), [])
        self.assertEqual(file.read((8, "rule", 1, "r")), [(1, -99), (2, -99)])
        self.assertEqual(file.view(59), ("a", "r"))
        self.assertEqual(passed(flat_course(), "x", Practice(), 0, file.entries()).view(59), ("a", "s"))

    def test_term(self):
        for term in range(4):
            for day in range(5):
                file = passed(flat_course(), "x", Practice(term=term), 5)
                heeded = 5 - day <= term
                self.assertEqual(file.read((1, "sign", day, "b")), [(day, 4)] if heeded else [])
                self.assertEqual(file.reckoned(), (day,) if heeded else ())
                self.assertEqual(file.view(day), ("b", "r"))
                file = passed(flat_course(), "x", Practice(term=term), 5)
                # Rules know no term.
                self.assertEqual(file.read((1, "rule", 0, "s")), [(day, 99) for day in range(5)])

    def test_term_and_appeal(self):
        for term in range(4):
            file = passed(flat_course(), "x", Practice(term=term), 2)
            file.appeal(2)
            for _ in range(term):
                file.pass_day()
            file.appeal(2)
            for _ in range(9):
                file.pass_day()
            self.refused(TooLate, {"day": 2}, file.appeal, 2)
            self.assertEqual(file.read((1, "sign", 2, "b")), [(2, 4)])
            self.assertEqual(file.read((2, "sign", 3, "b")), [])
            self.assertEqual(file.read((3, "sign", 2, "a")), [(2, -4)])

    def test_a_sign_not_heeded_is_taken_up_later(self):
        file = passed(Course(Book([("r", Waiting(AB, "b", 1, 7))]), ["x"]), "x", Practice(term=0), 1)
        file.appeal(1)
        file.pass_day()
        file.pass_day()
        self.assertEqual(file.read((1, "sign", 2, "b")), [])
        self.assertEqual((file.row(2)[0], file.view(2)[0]), ("a", "b"))
        # The appealed day 1 is reckoned again, and behind it day 2 by the sign that was not heeded.
        self.assertEqual(file.read((2, "sign", 1, "b")), [(2, 7)])
        self.assertEqual((file.row(2)[0], file.reckoned()), ("b", (1, 2)))

    def test_pays_and_asks(self):
        for bound in range(4):
            for day in range(5):
                near = 5 - day <= bound
                file = passed(flat_course(), "x", Practice(pays=bound), 5, [(1, "sign", day, "b")])
                self.assertEqual(file.read((2, "sign", day, "a")), [(day, -4)])
                self.assertEqual(file.read((3, "sign", day, "b")), [(day, 4)] if near else [])
                self.assertEqual((file.booked(day), file.row(day)[3]), (5 if near else 1, 5))
                self.assertEqual(file.reckoned(), (day,))
                file = passed(flat_course(), "x", Practice(asks=bound), 5)
                self.assertEqual(file.read((2, "sign", day, "b")), [(day, 4)])
                self.assertEqual(file.read((3, "sign", day, "a")), [(day, -4)] if near else [])
                self.assertEqual((file.booked(day), file.row(day)[3]), (1 if near else 5, 1))

    def test_what_was_not_booked_comes_back(self):
        file = passed(flat_course(), "x", Practice(pays=1), 3)
        self.assertEqual(file.read((1, "sign", 0, "b")), [])
        self.assertEqual((file.booked(0), file.row(0)[3], file.total()), (1, 5, 3))
        # The difference to what is booked counts: 100 - 1 is still not booked, 1 - 1 is nothing.
        self.assertEqual(file.read((2, "rule", 0, "s")), [(2, 99)])
        self.assertEqual(file.read((3, "void", 2)), [(2, -99)])
        self.assertEqual(file.read((4, "void", 1)), [])
        self.assertEqual(file.booked(0), 1)
        file = passed(flat_course(), "x", Practice(asks=0), 2, [(1, "sign", 0, "b")])
        self.assertEqual(file.read((2, "void", 1)), [])
        self.assertEqual(file.booked(0), 5)
        # 300 less the 5 that stayed booked.
        self.assertEqual(file.read((3, "rule", 0, "s")), [(0, 95), (1, 99)])

    def test_days_still_to_come_are_at_hand(self):
        practice = Practice(term=0, pays=0, asks=0, heeds="own")
        file = passed(flat_course(), "x", practice, 1)
        self.assertEqual(file.read((1, "sign", 1, "b")), [])
        self.assertEqual(file.pass_day(), 5)


class PracticeIsCopiedTest(Case):
    def test_changed_afterwards(self):
        practice = Practice(term=0)
        file = passed(flat_course(), "x", practice, 2)
        practice["term"] = None
        self.assertEqual(file.read((1, "sign", 0, "b")), [])
        twin = file.copy()
        practice["pays"] = 0
        self.assertEqual(twin.read((2, "rule", 1, "s")), [(1, 99)])
        self.assertEqual(twin.read((3, "sign", 0, "a")), [])
        self.assertEqual((file.reckoned(), twin.reckoned()), ((), ()))
        self.assertEqual(str(practice), "pays=0")


class CopyTest(Case):
    def test_copies_go_apart(self):
        rnd = seeded(91)
        for _ in range(60):
            course = made_course(rnd)
            office, practice = rnd.choice(course.offices), made_practice(rnd)
            file, words = File(course, office, practice), ByWords(course, office, practice)
            play(self, rnd, file, words, 20)
            twin = file.copy()
            self.assertIsInstance(twin, File)
            before = told_by(file)
            self.assertEqual(told_by(twin), before)
            others = words_of(twin, words)
            play(self, rnd, twin, others, 15)
            self.assertEqual(told_by(file), before)
            play(self, rnd, file, words, 15)

    def test_appeals_go_apart(self):
        file = passed(flat_course(), "x", Practice(term=0), 1)
        twin = file.copy()
        twin.appeal(1)
        third = twin.copy()
        for other in [file, twin, third]:
            other.pass_day()
        self.assertEqual(file.read((1, "sign", 1, "b")), [])
        self.assertEqual(twin.read((1, "sign", 1, "b")), [(1, 4)])
        self.assertEqual(third.read((1, "sign", 1, "b")), [(1, 4)])

    def test_returned_lists_are_new(self):
        file = passed(flat_course(), "x", Practice(), 2, [(1, "sign", 0, "b")])
        file.entries().clear()
        file.read((2, "sign", 1, "b")).clear()
        self.assertEqual(len(file.entries()), 2)
        self.assertIsInstance(file.row(0), tuple)
        self.assertIsInstance(file.view(0), tuple)
        self.assertIsInstance(file.reckoned(), tuple)


def made_entry(rnd, course, numbers, days):
    number = rnd.choice(numbers)
    form = rnd.choice(["sign", "sign", "sign", "rule", "void"])
    if form == "void" and number > 1:
        return number, "void", rnd.randint(max(1, number - 6), number - 1)
    if form == "rule":
        return number, "rule", rnd.randint(0, days), rnd.choice(course.rules)
    return number, "sign", rnd.randint(0, days), rnd.choice(course.signs)


def words_of(file, words):
    """A copy of what stands beside a file."""
    others = ByWords(words.course, words.office, words.practice)
    others.read_in_order, others.rows, others.paid = list(words.read_in_order), list(words.rows), list(words.paid)
    others.appealed, others.now, others.last = set(words.appealed), words.now, words.last
    return others


def play(case, rnd, file, words, steps):
    """Do made-up things with both, and hold what they tell against one another."""
    for _ in range(steps):
        chance = rnd.random()
        if chance < 0.3 and file.days < 59:
            case.assertEqual(file.pass_day(), words.pass_day())
        elif chance < 0.4:
            day = rnd.randint(0, min(59, file.days + 1))
            if words.appeal(day):
                case.assertIsNone(file.appeal(day))
            else:
                case.refused(TooLate, {"day": day}, file.appeal, day)
        elif chance < 0.5 and words.read_in_order:
            case.assertEqual(file.read(rnd.choice(words.read_in_order)), [])
            words.last = ()
        else:
            numbers = [number for number in range(1, 40) if number not in [entry[0] for entry in words.read_in_order]]
            if not numbers:
                continue
            entry = made_entry(rnd, words.course, numbers, max(1, min(59, file.days + 2)))
            case.assertEqual(file.read(entry), words.read(entry))
        days = range(file.days)
        case.assertEqual((file.days, file.now), (len(words.rows), words.now))
        case.assertEqual([file.row(day) for day in days], words.rows)
        case.assertEqual([file.booked(day) for day in days], words.paid)
        case.assertEqual(file.reckoned(), words.last)
        case.assertEqual(file.total(), sum(words.paid))
        case.assertEqual(file.entries(), sorted(words.read_in_order))
        case.assertEqual([file.view(day) for day in range(file.days + 3)], [words.view(day) for day in range(file.days + 3)])


class MadeUpTest(Case):
    def test_any_practice(self):
        rnd = seeded(92)
        weak = set()
        for _ in range(250):
            course = made_course(rnd, dues=(0, 1, -2))
            practice = made_practice(rnd)
            weak.update((word, practice[word]) for word in practice.weak())
            office = rnd.choice(course.offices)
            play(self, rnd, File(course, office, practice), ByWords(course, office, practice), 30)
        self.assertEqual(len(weak), 18)

    def test_each_weak_mark_alone(self):
        rnd = seeded(93)
        for word, values in {
            "again": [1, 2, 3], "amends": ["ahead"], "heeds": ["own"], "stands": ["come"], "term": [0, 1, 2, 3],
            "pays": [0, 1, 2, 3], "asks": [0, 1, 2, 3],
        }.items():
            for value in values:
                for _ in range(5):
                    course = made_course(rnd, dues=(0, 1, -2))
                    practice = Practice(**{word: value})
                    office = rnd.choice(course.offices)
                    play(self, rnd, File(course, office, practice), ByWords(course, office, practice), 25)


class FullPracticeTest(Case):
    """Point 21."""

    def made_entries(self, rnd, course, days, many):
        numbers = rnd.sample(range(1, 200), many)
        return [made_entry(rnd, course, [number], min(59, days)) for number in numbers]

    def check(self, file, course, office):
        sheet = Sheet(file.entries())
        life = sheet.life_of(file.days, course.signs[0])
        code = sheet.code_of(file.days, course.rules[0])
        seats, own = course.seats(life, code), course.own(office, life, code)
        self.assertEqual([file.row(day) for day in range(file.days)], list(zip(life, code, seats, own)))
        self.assertEqual(file.now, seats[-1])
        self.assertEqual([file.booked(day) for day in range(file.days)], own)
        self.assertEqual(file.total(), sum(own))

    def test_any_order(self):
        rnd = seeded(94)
        for _ in range(60):
            course = made_course(rnd, dues=(0, 1, -2, 9))
            office = rnd.choice(course.offices)
            days = rnd.choice([1, 5, 12, 30])
            entries = self.made_entries(rnd, course, days, rnd.randint(1, 15))
            told = set()
            for _ in range(3):
                file = File(course, office, Practice())
                deeds = [("read", entry) for entry in entries] + [("day",)] * days
                deeds += [("read", entry) for entry in rnd.sample(entries, len(entries) // 3)]
                rnd.shuffle(deeds)
                for deed in deeds:
                    if deed[0] == "read":
                        file.read(deed[1])
                    else:
                        file.pass_day()
                    self.check(file, course, office)
                told.add(tuple([*[file.row(day) for day in range(days)], file.now]))
            self.assertEqual(len(told), 1)

    def test_behind_and_ahead_of_all_days(self):
        rnd = seeded(95)
        for days in [1, 7, 60]:
            course = made_course(rnd, dues=(0, 1, -2, 9))
            office = rnd.choice(course.offices)
            entries = self.made_entries(rnd, course, days, 40)
            ahead = passed(course, office, Practice(), days, entries)
            behind = passed(course, office, Practice(), days)
            for entry in entries:
                behind.read(entry)
                self.check(behind, course, office)
            self.check(ahead, course, office)
            self.assertEqual(ahead.now, behind.now)

    def test_many_entries(self):
        rnd = seeded(96)
        course = made_course(rnd, dues=(0, 1, -2, 9))
        file = passed(course, course.offices[0], Practice(), 60)
        for number in rnd.sample(range(1, 871), 870):
            file.read(made_entry(rnd, course, [number], 59))
        self.check(file, course, course.offices[0])


if __name__ == "__main__":
    unittest.main()
