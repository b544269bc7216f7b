"""Points 26 and 30 to 33: sessions, what each event does and returns, and what is refused."""

import unittest
from itertools import product

from duehouse.books import Book
from duehouse.bridges import three_dues
from duehouse.courses import Course
from duehouse.errors import BadEvent, BadNumber, Closed, NoEntry, NoLetter, NotBridged, TooLate, TooMany, Unknown
from duehouse.healing import healed
from duehouse.houses import House
from duehouse.kinds import Flat, Once, Waiting
from duehouse.likeness import course_likeness
from duehouse.practices import Practice
from duehouse.promises import Fresh, NoLess
from duehouse.purses import Purse
from duehouse.sessions import Session, Trying, ends_wrong, tried
from duehouse.sheets import Sheet
from duehouse.terms import cost, matters
from tests.bywords import SessionByWords
from tests.support import WEAK, Case, made_book, made_course, made_event, made_history, made_house, seeded

AB = ("a", "b")


def flat_course(offices=("x", "y"), charges=None):
    """Each day gives 1 for a, 5 for b under r, and 100 or 300 under s."""
    return Course(Book([("r", Flat(AB, (1, 5))), ("s", Flat(AB, (100, 300)))]), offices, charges)


def flat_house(offices=("x", "y"), charges=None, **parts):
    return House(flat_course(offices, charges), **parts)


def done(session, *events):
    """All that happens by these events."""
    return [thing for event in events for thing in session.do(event)]


def session_with(house, *events):
    session = Session(house)
    done(session, *events)
    return session


def told_by(session):
    """All that a session tells of itself."""
    offices = session.house.course.offices
    files, purses = [session.file(office) for office in offices], [session.purse(office) for office in offices]
    return (
        session.days, session.truth(), session.letters(), session.wrong(),
        [(file.days, file.now, file.entries(), file.total()) for file in files],
        [[(file.row(day), file.booked(day)) for day in range(file.days)] for file in files],
        [[file.view(day) for day in range(60)] for file in files],
        [(purse.due, purse.waiting, purse.paid, purse.is_held, purse.closed) for purse in purses],
    )


class BeginTest(Case):
    def test_new_session(self):
        house = flat_house()
        session = Session(house)
        self.assertEqual(session.days, 0)
        self.assertEqual(session.house.course.offices, ("x", "y"))
        self.assertEqual((session.truth(), session.letters(), session.wrong(), session.settle()), (Sheet(), [], [], []))
        for office in "xy":
            file, purse = session.file(office), session.purse(office)
            self.assertEqual((file.office, file.days, file.entries(), file.total()), (office, 0, [], 0))
            self.assertEqual((purse.due, purse.paid, purse.is_held, purse.closed), (0, 0, False, False))

    def test_the_marks_of_the_house(self):
        house = flat_house(purses={"y": Purse(unit=3, held="drop")}, practices={"y": Practice(term=0)})
        session = session_with(house, ("day",), ("day",))
        self.assertEqual((session.purse("y").unit, session.purse("y").held_mark, session.purse("x").unit), (3, "drop", 1))
        self.refused(TooLate, {"day": 0}, session.do, ("appeal", "y", 0))
        self.assertEqual(session.do(("appeal", "x", 0)), [])

    def test_unknown_offices(self):
        session = Session(flat_house())
        for bad in ["q", "", None, 0]:
            self.refused(Unknown, {"name": bad}, session.file, bad)
            self.refused(Unknown, {"name": bad}, session.purse, bad)

    def test_what_is_returned_is_new(self):
        session = session_with(flat_house(), ("tell", "x", 0, "b"), ("day",))
        before = told_by(session)
        session.truth().__ior__(Sheet([(2, "sign", 1, "b")]))
        session.letters().clear()
        session.file("x").read((3, "sign", 0, "a"))
        session.file("x").pass_day()
        session.purse("x").run()
        session.do(("read", 0)).clear()
        self.assertEqual(session.letters(), [("y", "x", 1)])
        session.wrong().clear()
        session = session_with(flat_house(), ("tell", "x", 0, "b"), ("day",))
        self.assertEqual(told_by(session), before)


class EventsTest(Case):
    def test_tell(self):
        session = Session(flat_house(("x", "y", "z")))
        self.assertEqual(session.do(("tell", "y", 3, "b")), [("letter", "y", "x", 1), ("letter", "y", "z", 1)])
        self.assertEqual(session.truth(), Sheet([(1, "sign", 3, "b")]))
        self.assertEqual(session.file("y").entries(), [(1, "sign", 3, "b")])
        self.assertEqual((session.file("x").entries(), session.days), ([], 0))
        self.assertEqual(session.letters(), [("y", "x", 1), ("y", "z", 1)])

    def test_a_sign_told_late(self):
        session = Session(flat_house())
        self.assertEqual(done(session, ("day",), ("day",)), [("book", "x", 0, 1), ("book", "x", 1, 1)])
        self.assertEqual(session.do(("tell", "x", 0, "b")), [("book", "x", 0, 4), ("letter", "x", "y", 1)])
        self.assertEqual(session.purse("x").due, 6)

    def test_amend(self):
        session = session_with(flat_house(), ("day",), ("day",), ("day",))
        happened = session.do(("amend", "x", 1, "s"))
        self.assertEqual(happened, [("book", "x", 1, 99), ("book", "x", 2, 99), ("letter", "x", "y", 1)])
        self.assertEqual(session.truth(), Sheet([(1, "rule", 1, "s")]))

    def test_void(self):
        session = session_with(flat_house(), ("tell", "x", 0, "b"), ("day",))
        self.assertEqual(session.do(("void", "x", 1)), [("book", "x", 0, -4), ("letter", "x", "y", 2)])
        self.assertEqual(session.truth(), Sheet([(1, "sign", 0, "b"), (2, "void", 1)]))
        # It may be withdrawn at an office that does not know it yet.
        self.assertEqual(session.do(("void", "y", 2)), [("letter", "y", "x", 3)])
        self.assertEqual(session.do(("void", "x", 1)), [("letter", "x", "y", 4)])
        self.assertEqual(session.truth().stands(1), False)

    def test_numbers_go_on(self):
        session = session_with(flat_house(("x",)), ("tell", "x", 0, "b"), ("amend", "x", 0, "s"), ("void", "x", 1), ("tell", "x", 0, "b"))
        self.assertEqual([entry[0] for entry in session.truth()], [1, 2, 3, 4])
        self.assertEqual(session.truth().stands(1), False)
        self.refused(BadNumber, {"name": "day"}, session.do, ("tell", "x", 60, "b"))
        session.do(("tell", "x", 59, "b"))
        self.assertEqual(session.truth().top(), 5)

    def test_read(self):
        session = session_with(flat_house(), ("day",), ("tell", "y", 0, "b"))
        self.assertEqual(session.do(("read", 0)), [("book", "x", 0, 4), ("letter", "x", "y", 1)])
        # The writer knows it: it is read, and nothing comes of it.
        self.assertEqual(session.letters(), [("x", "y", 1)])
        self.assertEqual(session.do(("read", 0)), [])
        self.assertEqual(session.letters(), [])

    def test_an_entry_learnt_twice(self):
        session = session_with(flat_house(("x", "y", "z")), ("tell", "x", 0, "b"), ("read", 0))
        self.assertEqual(session.letters(), [("x", "z", 1), ("y", "x", 1), ("y", "z", 1)])
        self.assertEqual(session.do(("read", 2)), [("letter", "z", "x", 1), ("letter", "z", "y", 1)])
        entries = session.file("z").entries()
        self.assertEqual(session.do(("read", 0)), [])
        self.assertEqual(session.file("z").entries(), entries)
        self.assertEqual(session.letters(), [("y", "x", 1), ("z", "x", 1), ("z", "y", 1)])

    def test_letters_in_another_order(self):
        session = session_with(flat_house(), ("day",), ("tell", "x", 0, "b"), ("amend", "x", 0, "s"), ("void", "x", 1))
        self.assertEqual(session.letters(), [("x", "y", 1), ("x", "y", 2), ("x", "y", 3)])
        self.assertEqual(session.do(("read", 2)), [("letter", "y", "x", 3)])
        self.assertEqual(session.do(("read", 0)), [("letter", "y", "x", 1)])
        self.assertEqual(session.file("y").view(0), ("a", "r"))
        self.assertEqual(session.letters(), [("x", "y", 2), ("y", "x", 3), ("y", "x", 1)])
        session.settle()
        self.assertEqual(session.file("y").view(0), ("a", "s"))

    def test_only_where_ways_lead(self):
        session = Session(flat_house(("x", "y", "z"), ways=[("x", "y"), ("y", "z")]))
        self.assertEqual(session.do(("tell", "z", 0, "b")), [])
        self.assertEqual(session.do(("tell", "x", 0, "b")), [("letter", "x", "y", 2)])
        self.assertEqual(session.do(("read", 0)), [("letter", "y", "z", 2)])
        self.assertEqual(session.do(("read", 0)), [])
        self.assertEqual([len(session.file(office).entries()) for office in "xyz"], [1, 1, 2])

    def test_day(self):
        session = Session(flat_house(charges={("x", "b"): "y"}))
        done(session, ("tell", "x", 1, "b"), ("tell", "x", 2, "b"))
        self.assertEqual(session.do(("day",)), [("book", "x", 0, 1)])
        # x knows what y does not yet.
        self.assertEqual(session.do(("day",)), [("book", "x", 1, 5)])
        self.assertEqual(session.do(("day",)), [])
        self.assertEqual(session.days, 3)
        self.assertEqual(session.do(("read", 0)), [("book", "y", 2, 1), ("letter", "y", "x", 1)])
        self.assertEqual(session.do(("read", 0)), [("book", "y", 2, 4), ("letter", "y", "x", 2)])

    def test_day_in_the_order_of_the_offices(self):
        # Each office believes that it is in charge of the day itself.
        session = Session(flat_house(("z", "x", "y"), {("z", "b"): "x", ("z", "a"): "y"}))
        done(session, ("tell", "x", 0, "b"), ("day",))
        self.assertEqual(session.do(("day",)), [("book", "x", 1, 1), ("book", "y", 1, 1)])

    def test_appeal(self):
        house = flat_house(("x",), practices={"x": Practice(term=0)})
        session = Session(house)
        self.assertEqual(session.do(("appeal", "x", 1)), [])
        done(session, ("day",), ("day",))
        self.assertEqual(session.do(("tell", "x", 0, "b")), [])
        self.assertEqual(session.do(("tell", "x", 1, "b")), [("book", "x", 1, 4)])
        self.assertEqual(session.wrong(), [("x", 0, 1, 5)])

    def test_purses(self):
        session = Session(flat_house(purses={"x": Purse(unit=5)}))
        done(session, ("day",), ("day",), ("day",))
        self.assertEqual(session.do(("run", "x")), [])
        self.assertEqual(session.purse("x").due, 3)
        done(session, ("tell", "x", 3, "b"), ("day",))
        self.assertEqual(session.do(("run", "x")), [("pay", "x", 5)])
        self.assertEqual(session.do(("hold", "x")), [])
        self.assertEqual(session.do(("day",)), [("book", "x", 4, 1)])
        self.assertEqual((session.purse("x").due, session.purse("x").waiting), (3, 1))
        self.assertEqual(session.do(("run", "x")), [])
        self.assertEqual(session.do(("free", "x")), [])
        self.assertEqual((session.purse("x").due, session.purse("x").is_held), (4, False))
        self.assertEqual(session.do(("void", "x", 1)), [("book", "x", 3, -4), ("letter", "x", "y", 2)])
        self.assertEqual(session.do(("run", "x")), [])
        done(session, ("tell", "x", 0, "b"), ("void", "x", 3), ("amend", "x", 3, "s"))
        self.assertEqual(session.do(("run", "x")), [("pay", "x", 195)])

    def test_asked_back(self):
        session = session_with(flat_house(("x",)), ("tell", "x", 0, "b"), ("day",), ("run", "x"))
        self.assertEqual(session.do(("tell", "x", 0, "a")), [("book", "x", 0, -4)])
        self.assertEqual(session.do(("run", "x")), [("pay", "x", -4)])
        self.assertEqual(session.purse("x").paid, 1)

    def test_booked_each_by_itself(self):
        # A held purse that drops loses what is above 0 alone, amount by amount.
        course = Course(Book([("r", Once(AB, "b", 7)), ("s", Once(AB, "b", 9))]), ["x"])
        session = Session(House(course, purses={"x": Purse(held="drop")}))
        done(session, ("tell", "x", 3, "b"), ("day",), ("day",), ("day",), ("day",), ("hold", "x"))
        self.assertEqual(session.do(("tell", "x", 1, "b")), [("book", "x", 1, 7), ("book", "x", 3, -7)])
        self.assertEqual((session.purse("x").due, session.purse("x").waiting), (7, -7))
        done(session, ("free", "x"))
        self.assertEqual(session.do(("amend", "x", 1, "s")), [("book", "x", 1, 2)])

    def test_close(self):
        house = flat_house(purses={"x": Purse(unit=5, rest="drop", cap=1), "y": Purse(cap=1)}, charges={("x", "b"): "y"})
        session = session_with(house, ("tell", "y", 0, "b"), ("day",), ("day",), ("hold", "y"))
        happened = session.do(("close",))
        self.assertEqual(happened, [
            ("book", "x", 0, 4), ("book", "x", 1, -1), ("letter", "x", "y", 1), ("pay", "x", 5), ("pay", "y", 1),
        ])
        self.assertEqual((session.letters(), session.wrong()), ([], []))
        self.assertTrue(session.purse("x").closed and session.purse("y").closed)
        self.assertEqual((session.purse("x").paid, session.purse("y").paid), (5, 1))
        self.assertEqual(session.settle(), [])

    def test_close_pays_in_the_order_of_the_offices(self):
        house = flat_house(("z", "x"), {("z", "a"): "x"}, ways=[])
        session = session_with(house, ("day",), ("day",))
        self.assertEqual(session.do(("close",)), [("pay", "z", 1), ("pay", "x", 1)])
        self.assertEqual(Session(house).do(("close",)), [])

    def test_settle(self):
        session = Session(flat_house(("x", "y", "z")))
        self.assertEqual(session.settle(), [])
        done(session, ("day",), ("tell", "y", 0, "b"), ("amend", "z", 0, "s"))
        happened = session.settle()
        self.assertEqual(happened, [
            ("book", "x", 0, 4), ("letter", "x", "y", 1), ("letter", "x", "z", 1),
            ("letter", "z", "x", 1), ("letter", "z", "y", 1),
            ("book", "x", 0, 295), ("letter", "x", "y", 2), ("letter", "x", "z", 2),
            ("letter", "y", "x", 2), ("letter", "y", "z", 2),
        ])
        self.assertEqual((session.letters(), session.settle(), session.wrong()), ([], [], []))

    def test_wrong(self):
        house = flat_house(("y", "x"), {("y", "b"): "x"}, ways=[])
        session = session_with(house, ("tell", "x", 0, "b"), ("tell", "y", 1, "b"), ("day",), ("day",), ("tell", "y", 2, "b"))
        self.assertEqual(session.wrong(), [("y", 0, 1, 5), ("y", 1, 5, 0), ("x", 1, 1, 5)])


class RefusedTest(Case):
    def refused_all(self, session, rows):
        before = told_by(session)
        for event, error, fields in rows:
            with self.subTest(event):
                self.refused(error, fields, session.do, event)
                self.assertEqual(told_by(session), before)

    def test_forms(self):
        session = session_with(flat_house(), ("tell", "x", 0, "b"))
        bad = [
            None, 0, "day", "", (), [], ["day"], {}, (1,), (None,), (("day",),), ([],), ("Day",), ("", "x"), ("settle",),
            ("tell",), ("tell", "x"), ("tell", "x", 0), ("tell", "x", 0, "b", 1), ("amend", "x", 0), ("amend", "q", 99),
            ("amend", "x", 0, "r", "r"), ("void",), ("void", "x"), ("void", "x", 1, 1), ("read",), ("read", 0, 0),
            ("day", 1), ("day", "x"), ("appeal", "x"), ("appeal", "x", 0, 0), ("hold",), ("hold", "x", 0), ("free",),
            ("free", "x", "y"), ("run",), ("run", "x", 1), ("close", "x"), ("close", None), ("tells", "x", 0, "b"),
            ["tell", "x", 0, "b"], "close", b"day",
        ]
        self.refused_all(session, [(event, BadEvent, {"event": event}) for event in bad])

    def test_items_one_behind_the_other(self):
        session = session_with(flat_house(), ("tell", "x", 0, "b"), ("day",))
        rows = []
        for word, name in [("tell", "b"), ("amend", "s")]:
            for office in ["q", "", None, 0, "X"]:
                rows.append(((word, office, -1, "q"), Unknown, {"name": office}))
            for day in [-1, 60, True, False, None, "0", 0.0, ()]:
                rows.append(((word, "x", day, "q"), BadNumber, {"name": "day"}))
                rows.append(((word, "y", day, name), BadNumber, {"name": "day"}))
            for bad in ["q", "", None, 0, "a" if word == "amend" else "r"]:
                rows.append(((word, "x", 0, bad), Unknown, {"name": bad}))
        for number in [0, 2, -1, True, False, None, "1", 1.0]:
            rows.append((("void", "x", number), NoEntry, {"number": number}))
            rows.append((("void", "q", number), Unknown, {"name": "q"}))
        for index in [1, 2, -1, True, False, None, "0", 0.0]:
            rows.append((("read", index), NoLetter, {"index": index}))
        for day in [-1, 60, True, None, "0"]:
            rows.append((("appeal", "x", day), BadNumber, {"name": "day"}))
            rows.append((("appeal", "q", day), Unknown, {"name": "q"}))
        for word in ["hold", "free", "run"]:
            rows.extend([((word, bad), Unknown, {"name": bad}) for bad in ["q", "", None, 0]])
        self.refused_all(session, rows)
        session.do(("read", 0))
        session.do(("read", 0))
        self.refused_all(session, [(("read", 0), NoLetter, {"index": 0})])

    def test_late(self):
        for bound in range(4):
            for word, name, parts in [("tell", "b", {"late": bound}), ("amend", "s", {"reach": bound})]:
                for days in range(6):
                    session = session_with(flat_house(**parts), *[("day",)] * days)
                    for day in range(60):
                        event = (word, "x", day, name)
                        if days - day > bound:
                            self.refused_all(session, [(event, TooLate, {"day": day})])
                        elif day <= days + 1 or day == 59:
                            session.copy().do(event)

    def test_each_bound_for_its_own_events(self):
        session = session_with(flat_house(late=0), ("day",), ("day",))
        session.do(("amend", "x", 0, "s"))
        self.refused_all(session, [(("tell", "x", 1, "b"), TooLate, {"day": 1})])
        session = session_with(flat_house(reach=0), ("day",), ("day",))
        session.do(("tell", "x", 0, "b"))
        self.refused_all(session, [(("amend", "x", 1, "s"), TooLate, {"day": 1})])

    def test_items_come_ahead_of_the_time(self):
        session = session_with(flat_house(late=0, reach=0), ("tell", "x", 0, "b"), ("day",), ("day",))
        self.refused_all(session, [
            (("tell", "x", 0, "q"), Unknown, {"name": "q"}),
            (("amend", "x", 0, "q"), Unknown, {"name": "q"}),
            (("tell", "x", 60, "b"), BadNumber, {"name": "day"}),
            (("void", "x", 2), NoEntry, {"number": 2}),
            (("void", "q", 1), Unknown, {"name": "q"}),
            (("void", "x", 1), TooLate, {"day": 0}),
        ])

    def test_voids_by_what_they_lead_to(self):
        for bound in range(4):
            house = flat_house(late=bound, reach=0)
            session = session_with(house, ("tell", "x", 2, "b"), ("void", "y", 1), ("void", "x", 2), *[("day",)] * (2 + bound))
            for number in [1, 2, 3]:
                session.copy().do(("void", "x", number))
            session.do(("day",))
            self.refused_all(session, [(("void", "y", number), TooLate, {"day": 2}) for number in [1, 2, 3]])
            house = flat_house(late=0, reach=bound)
            session = session_with(house, ("amend", "x", 2, "s"), ("void", "y", 1), ("void", "x", 2), *[("day",)] * (2 + bound))
            for number in [1, 2, 3]:
                session.copy().do(("void", "x", number))
            session.do(("day",))
            self.refused_all(session, [(("void", "y", number), TooLate, {"day": 2}) for number in [1, 2, 3]])

    def test_void_is_never_too_late_without_a_bound(self):
        session = session_with(flat_house(reach=0), ("tell", "x", 0, "b"), *[("day",)] * 9)
        self.assertEqual(session.do(("void", "x", 1))[0], ("book", "x", 0, -4))
        self.assertEqual(session.do(("void", "x", 2))[0], ("book", "x", 0, 4))

    def test_appeals(self):
        for term in range(4):
            session = session_with(flat_house(practices={"x": Practice(term=term)}, late=0), *[("day",)] * 6)
            for day in range(60):
                if 6 - day > term:
                    self.refused_all(session, [(("appeal", "x", day), TooLate, {"day": day})])
                else:
                    self.assertEqual(session.do(("appeal", "x", day)), [])
                self.assertEqual(session.do(("appeal", "y", day)), [])

    def test_too_many_entries(self):
        events = [("tell", "x", 1, "ab"[k % 2]) for k in range(118)]
        session = session_with(flat_house(late=0), *events, ("amend", "x", 2, "s"), ("day",), ("void", "y", 119))
        self.assertEqual(len(session.truth()), 120)
        self.refused_all(session, [
            (("tell", "x", 1, "b"), TooMany, {"limit": 120}),
            (("amend", "x", 1, "s"), TooMany, {"limit": 120}),
            (("void", "x", 120), TooMany, {"limit": 120}),
            # What else is wrong comes first.
            (("tell", "x", 0, "b"), TooLate, {"day": 0}),
            (("tell", "x", 1, "q"), Unknown, {"name": "q"}),
            (("void", "x", 121), NoEntry, {"number": 121}),
        ])
        session.do(("day",))
        self.refused_all(session, [(("void", "x", 1), TooLate, {"day": 1})])
        session.do(("read", 3))
        session.settle()
        self.assertEqual(len(session.file("y").entries()), 120)

    def test_too_many_days(self):
        session = session_with(flat_house(), *[("day",)] * 60)
        self.assertEqual((session.days, session.purse("x").due), (60, 60))
        self.refused_all(session, [(("day",), TooMany, {"limit": 60}), (("day", 1), BadEvent, {"event": ("day", 1)})])
        self.assertEqual(session.do(("tell", "x", 59, "b")), [("book", "x", 59, 4), ("letter", "x", "y", 1)])
        # Nothing but a day is one too many.
        for event, happened in [
            (("amend", "y", 59, "s"), [("letter", "y", "x", 2)]), (("read", 0), [("letter", "y", "x", 1)]),
            (("void", "y", 1), [("letter", "y", "x", 3)]), (("appeal", "x", 0), []), (("hold", "x"), []), (("free", "x"), []),
            (("run", "x"), [("pay", "x", 64)]),
        ]:
            self.assertEqual(session.do(event), happened)
        self.assertEqual(session.do(("close",))[-1], ("pay", "x", 95))

    def test_too_many_days_where_an_office_is_called_day(self):
        session = session_with(flat_house(("day",)), *[("day",)] * 60)
        self.assertEqual(session.do(("run", "day")), [("pay", "day", 60)])

    def test_behind_close(self):
        session = session_with(flat_house(late=0), ("tell", "x", 0, "b"), ("day",), ("day",), ("close",))
        events = [
            ("tell", "x", 3, "b"), ("amend", "x", 3, "s"), ("void", "x", 1), ("read", 0), ("day",), ("appeal", "x", 3),
            ("hold", "x"), ("free", "x"), ("run", "x"), ("close",), ("tell", "q", 99, "q"), ("void", "x", 9), ("hold", 0),
        ]
        self.refused_all(session, [(event, Closed, {}) for event in events])
        self.refused_all(session, [(event, BadEvent, {"event": event}) for event in [("tell", "x"), None, ("close", 1)]])
        self.assertEqual(session.settle(), [])


class MadeUpTest(Case):
    """Sessions held against a second reckoning by the words of the points."""

    def same(self, session, words):
        self.assertEqual(session.days, words.days)
        self.assertEqual(list(session.truth()), words.told)
        self.assertEqual(session.letters(), [(writer, reader, entry[0]) for writer, reader, entry in words.letters])
        self.assertEqual(session.wrong(), words.wrong())
        for office in session.house.course.offices:
            file, other = session.file(office), words.files[office]
            self.assertEqual([file.row(day) for day in range(file.days)], other.rows)
            self.assertEqual([file.booked(day) for day in range(file.days)], other.paid)
            self.assertEqual((file.now, file.entries()), (other.now, sorted(other.read_in_order)))
            purse, second = session.purse(office), words.purses[office]
            self.assertEqual(
                (purse.due, purse.waiting, purse.paid, purse.is_held), (second.due, second.waits, second.paid, second.held)
            )

    def play(self, rnd, house, steps):
        session, words = Session(house), SessionByWords(house)
        for _ in range(steps):
            event = made_event(rnd, session, 8, house.course.offices)
            if rnd.random() < 0.2:
                event = (rnd.choice(["hold", "free", "run", "run"]), rnd.choice(house.course.offices))
            if event == ("day",) and session.days == 8:
                continue
            try:
                happened = session.do(event)
            except TooLate:
                continue
            self.assertEqual(happened, words.do(event))
            self.same(session, words)
        if rnd.random() < 0.5:
            self.assertEqual(session.settle(), words.settle())
            self.same(session, words)
        self.assertEqual(session.do(("close",)), words.do(("close",)))
        self.same(session, words)

    def test_any_house(self):
        rnd = seeded(211)
        for _ in range(70):
            self.play(rnd, made_house(rnd, made_course(rnd, dues=(0, 1, -2, 7))), 30)

    def test_each_weak_mark(self):
        rnd = seeded(212)
        for word, values in WEAK.items():
            for value in values:
                for _ in range(2):
                    course = made_course(rnd, dues=(0, 1, -2))
                    practices = {office: Practice(**{word: value}) for office in course.offices}
                    self.play(rnd, House(course, practices=practices, late=rnd.choice([None, 3])), 30)


class FullTest(Case):
    """With full practices, at rest, each day of each office is booked by the truth as the office hears it."""

    def test_any_order(self):
        rnd = seeded(221)
        for _ in range(50):
            house = made_house(rnd, made_course(rnd, dues=(0, 1, -2, 7)), full=True)
            course, ways = house.course, house.ways()
            events = made_history(rnd, house, rnd.randint(1, 9), rnd.randint(0, 25))
            session = session_with(house, *events)
            session.settle()
            truth = session.truth()
            life, code = truth.life_of(session.days, course.signs[0]), truth.code_of(session.days, course.rules[0])
            for office in course.offices:
                if len(ways.hears(office)) < len(course.offices):
                    continue
                file = session.file(office)
                self.assertEqual([file.booked(day) for day in range(session.days)], course.own(office, life, code))
                self.assertEqual(file.now, course.seats(life, code)[-1])
                self.assertNotIn(office, ends_wrong(house, events))
            self.assertEqual(len(session.letters()), 0)

    def test_learnt_is_what_was_told_where_it_hears(self):
        rnd = seeded(222)
        for _ in range(40):
            house = made_house(rnd, made_course(rnd))
            session, told = Session(house), []
            for event in made_history(rnd, house, 3, 20):
                session.do(event)
                if event[0] in ("tell", "amend", "void"):
                    told.append(event[1])
            session.settle()
            for office in house.course.offices:
                heard = house.ways().hears(office)
                entries = [entry for entry, place in zip(session.truth(), told) if place in heard]
                self.assertEqual(session.file(office).entries(), entries)

    def test_a_closed_session_has_paid_the_own_dues(self):
        rnd = seeded(223)
        for _ in range(40):
            course = made_course(rnd, dues=(0, 1, -2, 7))
            purses = {office: Purse(unit=rnd.randint(1, 5), cap=rnd.choice([None, 1, 5])) for office in course.offices}
            house = House(course, purses=purses)
            session = Session(house)
            for event in made_history(rnd, house, rnd.randint(1, 8), rnd.randint(0, 20)):
                session.do(event)
                if rnd.random() < 0.3:
                    session.do((rnd.choice(["hold", "free", "run"]), rnd.choice(course.offices)))
            session.do(("close",))
            life, code = session.truth().life_of(session.days, course.signs[0]), session.truth().code_of(session.days, course.rules[0])
            for office in course.offices:
                self.assertEqual(session.purse(office).paid, sum(course.own(office, life, code)))
                self.assertEqual((session.purse(office).due, session.purse(office).waiting), (0, 0))

    def test_the_same_entries_in_any_order(self):
        # The numbers stay with what is told; only the reading goes another way.
        rnd = seeded(224)
        for _ in range(20):
            house = made_house(rnd, made_course(rnd, dues=(0, 1, -2, 7)), full=True)
            entries = [event for event in made_history(rnd, House(house.course), 1, 15) if event[0] in ("tell", "amend", "void")]
            ends = set()
            for _ in range(4):
                session = Session(House(house.course))
                left = list(entries)
                while left or session.days < 5:
                    deeds = ["tell"] * bool(left) + ["day"] * (session.days < 5) + ["read"] * bool(session.letters())
                    deed = rnd.choice(deeds)
                    if deed == "tell":
                        session.do(left.pop(0))
                    elif deed == "day":
                        session.do(("day",))
                    else:
                        session.do(("read", rnd.randrange(len(session.letters()))))
                session.settle()
                self.assertEqual(session.wrong(), [])
                ends.add(str(told_by(session)[4:6]))
            self.assertEqual(len(ends), 1)


class CopyTest(Case):
    def test_copies_go_apart(self):
        rnd = seeded(231)
        for _ in range(30):
            house = made_house(rnd, made_course(rnd, dues=(0, 1, -2)))
            session = Session(house)
            for event in made_history(rnd, house, 3, 10):
                session.do(event)
            before, twin = told_by(session), session.copy()
            self.assertIsInstance(twin, Session)
            self.assertEqual(told_by(twin), before)
            other = twin.copy()
            for office in house.course.offices:
                twin.do(("hold", office))
                twin.do(("tell", office, 59, house.course.signs[-1]))
            twin.do(("day",))
            twin.do(("close",))
            self.assertEqual(told_by(session), before)
            self.assertEqual(told_by(other), before)
            session.do(("day",))
            self.assertEqual(told_by(other), before)
            self.refused(Closed, {}, twin.copy().do, ("day",))

    def test_what_was_learnt_goes_along(self):
        session = session_with(flat_house(("x", "y", "z")), ("tell", "x", 0, "b"), ("read", 0))
        self.assertEqual(session.letters(), [("x", "z", 1), ("y", "x", 1), ("y", "z", 1)])
        twin = session.copy()
        self.assertEqual(twin.do(("read", 1)), [])
        with Trying(session) as trial:
            self.assertEqual(trial.do(("read", 0)), [("letter", "z", "x", 1), ("letter", "z", "y", 1)])
        self.assertEqual(session.do(("read", 1)), [])
        self.assertEqual(session.do(("read", 1)), [("letter", "z", "x", 1), ("letter", "z", "y", 1)])

    def test_appeals_go_along(self):
        session = session_with(flat_house(("x",), practices={"x": Practice(term=0)}), ("appeal", "x", 1))
        twin = session.copy()
        done(session, ("day",), ("day",))
        done(twin, ("day",), ("day",))
        self.assertEqual(twin.do(("tell", "x", 1, "b")), session.do(("tell", "x", 1, "b")))


class TryingTest(Case):
    def test_block(self):
        session = session_with(flat_house(), ("tell", "x", 1, "b"), ("day",), ("hold", "y"))
        before = told_by(session)
        with Trying(session) as trial:
            self.assertIs(trial, session)
            self.assertEqual(told_by(trial), before)
            done(trial, ("day",), ("tell", "y", 0, "b"), ("read", 0), ("free", "y"), ("run", "x"), ("appeal", "x", 0))
            trial.do(("close",))
            self.assertEqual(session.days, 2)
            self.assertNotEqual(told_by(session), before)
        self.assertEqual(told_by(session), before)
        self.assertEqual(session.do(("day",)), [("book", "x", 1, 5)])

    def test_behind_an_error(self):
        session = session_with(flat_house(), ("tell", "x", 1, "b"), ("day",))
        before = told_by(session)
        for error in [KeyError, TooLate, ValueError]:
            with self.assertRaises(error):
                with Trying(session) as trial:
                    trial.do(("day",))
                    trial.settle()
                    raise error(1)
            self.assertEqual(told_by(session), before)

    def test_ahead_of_the_block(self):
        session = Session(flat_house())
        trying = Trying(session)
        session.do(("day",))
        with trying:
            session.do(("day",))
        self.assertEqual(session.days, 1)

    def test_one_in_another(self):
        session = Session(flat_house())
        with Trying(session) as outer:
            outer.do(("day",))
            with Trying(outer) as inner:
                done(inner, ("day",), ("tell", "x", 0, "b"))
            self.assertEqual((outer.days, len(outer.truth())), (1, 0))
            outer.do(("tell", "y", 0, "b"))
        self.assertEqual((session.days, len(session.truth()), session.letters()), (0, 0, []))

    def test_left_by_return(self):
        session = Session(flat_house())

        def leave():
            with Trying(session) as trial:
                trial.do(("day",))
                return trial.days

        self.assertEqual((leave(), session.days), (1, 0))

    def test_tried(self):
        house = flat_house(practices={"x": Practice(term=0)}, ways=[("y", "x")])
        session = session_with(house, ("tell", "y", 1, "b"), ("day",))
        before = told_by(session)
        self.assertEqual(tried(session, []), [])
        self.assertEqual(tried(session, [("day",)]), [("x", 1, 1, 5)])
        self.assertEqual(tried(session, [("read", 0), ("day",)]), [])
        self.assertEqual(tried(session, [("day",), ("close",)]), [("x", 1, 1, 5)])
        self.assertEqual(told_by(session), before)

    def test_tried_refused(self):
        session = session_with(flat_house(late=0), ("day",), ("day",))
        before = told_by(session)
        self.refused(TooLate, {"day": 0}, tried, session, [("day",), ("tell", "x", 3, "b"), ("tell", "x", 0, "b")])
        self.refused(BadEvent, {"event": None}, tried, session, [("tell", "x", 3, "b"), None])
        self.assertEqual(told_by(session), before)

    def test_tried_by_words(self):
        rnd = seeded(232)
        for _ in range(25):
            house = made_house(rnd, made_course(rnd, dues=(0, 1, -2)))
            events = made_history(rnd, house, 4, 12)
            session, words = Session(house), SessionByWords(house)
            for event in events[:5]:
                session.do(event)
            for event in events:
                words.do(event)
            words.settle()
            self.assertEqual(tried(session, events[5:]), words.wrong())
            offices = {row[0] for row in words.wrong()}
            self.assertEqual(ends_wrong(house, events), tuple(sorted(offices)))


class EndsWrongTest(Case):
    def test_examples(self):
        house = flat_house(("z", "x", "y"), {("z", "a"): "x", ("z", "b"): "y"}, ways=[("x", "z")])
        self.assertEqual(ends_wrong(house, []), ())
        self.assertEqual(ends_wrong(house, [("day",), ("day",)]), ())
        self.assertEqual(ends_wrong(house, [("tell", "y", 0, "b"), ("day",)]), ("z",))
        self.assertEqual(ends_wrong(house, [("tell", "y", 0, "b"), ("day",), ("day",)]), ("x", "z"))
        self.assertEqual(ends_wrong(house, [("tell", "x", 0, "b"), ("day",), ("day",)]), ("y",))
        self.assertEqual(ends_wrong(house, [("tell", "x", 0, "b"), ("day",), ("day",), ("close",)]), ("y",))

    def test_refused(self):
        self.refused(NoLetter, {"index": 0}, ends_wrong, flat_house(), [("day",), ("read", 0)])

    def test_the_house_stays_as_it_is(self):
        rnd = seeded(233)
        for _ in range(10):
            house = made_house(rnd, made_course(rnd))
            events = made_history(rnd, house, 3, 10)
            told = list(events)
            self.assertEqual(ends_wrong(house, events), ends_wrong(house, events))
            self.assertEqual(events, told)


class WholeHistoriesTest(Case):
    """What points 11, 14 to 16, 25 and 29 say of lives and codes, as it shows in sessions."""

    def events_of(self, course, office, life, code):
        """Events that tell life and code ahead of all days, in any case."""
        told = [("tell", office, day, sign) for day, sign in enumerate(life)]
        return told + [("amend", office, day, rule) for day, rule in enumerate(code)]

    def test_kept_persons(self):
        book = Book([("r", Once(AB, "b", 7)), ("s", Once(AB, "b", 9))])
        book["r", "s"] = (None, 0)
        house = House(Course(book, ["x"]))
        session = session_with(house, ("amend", "x", 1, "s"), ("day",), ("day",), ("day",))
        self.assertEqual(session.file("x").row(2)[2], ("x", "r", 0))
        # The entry is looked at again on each later day.
        self.assertEqual(session.do(("tell", "x", 1, "b")), [("book", "x", 1, 7)])
        self.assertEqual(session.file("x").now, ("x", "s", 0))
        self.assertEqual(done(session, ("tell", "x", 3, "b"), ("day",)), [("book", "x", 3, 9)])

    def test_amendments(self):
        rnd = seeded(241)
        for _ in range(40):
            book = made_book(rnd, AB, 2, 3, (0, 1, 5))
            house = House(Course(book, ["x"]))
            life = tuple(rnd.choice(AB) for _ in range(6))
            day = rnd.randint(1, 5)
            session = Session(house)
            events = self.events_of(house.course, "x", life, ("a",)) + [("amend", "x", day, "b")] + [("day",)] * 6
            rnd.shuffle(events)
            # Numbers go by the order of telling: of each day one thing of each kind is told.
            done(session, *events)
            dues = [due for _, _, due in three_dues(book, "a", "b", life, day)]
            self.assertEqual([session.file("x").booked(at) for at in range(day, 6)], dues)

    def healed_house(self, rnd, promise):
        """A house of one office whose tables all keep the promise, or None."""
        book = made_book(rnd, AB, 2, 3, (0, 1, 2))
        for name in book.names:
            rule = book.rule_named(name)
            if len(rule.least()) < len(rule):
                return None
        try:
            return House(Course(healed(healed(book, "a", "b", promise), "b", "a", promise), ["x"]))
        except NotBridged:
            return None

    def test_rows_of_amendments(self):
        rnd, tried_houses = seeded(242), {"noless": 0, "fresh": 0}
        for _ in range(400):
            promise = rnd.choice([NoLess(), Fresh()])
            house = self.healed_house(rnd, promise)
            if house is None:
                continue
            tried_houses[str(promise)] += 1
            course, book = house.course, house.course.book_copy()
            life, code = [rnd.choice(AB) for _ in range(7)], [rnd.choice("ab") for _ in range(7)]
            events = self.events_of(course, "x", life, code) + [("day",)] * 7
            rnd.shuffle(events)
            session = session_with(house, *events)
            for day in range(7):
                sign, rule, seat, due = session.file("x").row(day)
                if str(promise) == "fresh":
                    self.assertEqual(due, book.rule_named(rule)(life[: day + 1])[-1])
                elif day > 0:
                    state = book.rule_named(seat[1])[seat[2]]
                    self.assertGreaterEqual(due, state[course.signs.index(sign)][0])
        self.assertTrue(all(many > 10 for many in tried_houses.values()), tried_houses)

    def test_days_that_matter_appealed_in_time(self):
        # Waiting: a sign changes the due of the day and of the next one.
        course = Course(Book([("r", Waiting(AB, "b", 1, 7))]), ["x"])
        house = House(course, practices={"x": Practice(term=1)})
        told = [("tell", "x", 0, "b"), ("tell", "x", 1, "b"), *[("day",)] * 3]
        late = [("tell", "x", 0, "a")]
        self.assertEqual(ends_wrong(house, told + late), ("x",))
        self.assertEqual(ends_wrong(house, [("appeal", "x", 0), *told, *late]), ())

    def test_any_days_that_matter(self):
        rnd, left_out = seeded(243), 0
        for _ in range(40):
            course = made_course(rnd)
            office, term = rnd.choice(course.offices), rnd.randint(0, 3)
            house = House(course, practices={office: Practice(term=term)}, ways=[])
            life = tuple(rnd.choice(course.signs) for _ in range(5))
            code = tuple(rnd.choice(course.rules) for _ in range(5))
            doubtful = rnd.sample(range(5), rnd.randint(1, 3))
            days = matters(course, office, life, code, doubtful)
            told = self.events_of(course, office, life, code)
            appeals = [("appeal", office, day) for day in days]
            for signs in product(course.signs, repeat=len(doubtful)):
                late = [("tell", office, day, sign) for day, sign in zip(doubtful, signs)]
                rnd.shuffle(late)
                events = [*told, *appeals, *[("day",)] * rnd.randint(5, 9), *late, *[("day",)] * rnd.randint(0, 3)]
                self.assertNotIn(office, ends_wrong(house, events))
            for day in days:
                first, second, further = cost(course, office, life, code, doubtful, day)
                lived = first + tuple(sign for _, sign in further)
                ruled = code + tuple(rule for rule, _ in further)
                others = [event for event in appeals if event[2] != day]
                passing = [("day",)] * max(len(lived), day + term + 1)
                late = [("tell", office, day, second[day])]
                self.assertIn(office, ends_wrong(house, [*self.events_of(course, office, lived, ruled), *others, *passing, *late]))
                left_out += 1
        self.assertGreater(left_out, 30)

    def test_alike_signs(self):
        rnd, alike = seeded(244), 0
        for _ in range(60):
            course = made_course(rnd, dues=(0, 0, 0, 1), states=2)
            likeness = course_likeness(course)
            house = made_house(rnd, course, full=True)
            events = made_history(rnd, house, 5, 15)
            groups = {sign: group for group in likeness for sign in group}
            others = [
                (*event[:3], rnd.choice(groups[event[3]])) if event[0] == "tell" else event for event in events
            ]
            alike += others != events
            first, second = session_with(house, *events), session_with(house, *others)
            first.settle()
            second.settle()
            for office in course.offices:
                days = range(first.days)
                self.assertEqual([first.file(office).booked(day) for day in days], [second.file(office).booked(day) for day in days])
        self.assertGreater(alike, 10)


if __name__ == "__main__":
    unittest.main()
