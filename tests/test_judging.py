"""Points 36 to 38: verdicts, harms whose histories are as short as can be, bare houses, and blame."""

import unittest
from itertools import product

from duehouse.books import Book
from duehouse.courses import Course
from duehouse.errors import BadEvent, Blamed, HouseWrong, NoMark, TooLate
from duehouse.harms import is_harmful, marks_of
from duehouse.houses import House
from duehouse.judging import Harm, Verdict, assure, bare, blamed, harm_of, judge
from duehouse.kinds import Flat, Once, Waiting
from duehouse.practices import FULL, Practice
from duehouse.purses import Purse
from duehouse.rules import Rule
from duehouse.sessions import Session, ends_wrong, tried
from tests.support import WEAK, Case, made_course, made_history, made_house, seeded

AB = ("a", "b")
ENTRIES = ("tell", "amend", "void")


def flat_course(offices=("x", "y")):
    return Course(Book([("r", Flat(AB, (1, 5))), ("s", Flat(AB, (100, 300)))]), offices)


def days_of(events):
    return events.count(("day",))


def bare_by_words(house, mark):
    """The bare house of point 37, built anew."""
    office, word, value = mark
    return House(
        house.course, practices={} if word == "hears" else {office: Practice(**{word: value})},
        purses={other: house.purse(other) for other in house.course.offices}, ways=list(house.ways()),
        late=house.late, reach=house.reach,
    )


def tellers_of(house, mark):
    """The offices at which a history for this mark may tell: for a practice mark those that are heard."""
    return house.course.offices if mark[1] == "hears" else house.ways().hears(mark[0])


def next_events(session, office, tellers, days, left):
    """All events that can make a difference to what this office books for so many days."""
    course = session.house.course
    events = [("day",)] if session.days < days else []
    letters = session.letters()
    events += [("read", at) for at, letter in enumerate(letters) if letter not in letters[:at]]
    if left:
        for teller in tellers:
            events += [("tell", teller, day, sign) for day in range(days) for sign in course.signs]
            events += [("amend", teller, day, rule) for day in range(days) for rule in course.rules]
            events += [("void", teller, number + 1) for number in range(len(session.truth()))]
    return events


def wrong_history(house, office, tellers, days, most):
    """A history of at most so many days and entries that ends wrong in the office, or None, by a search."""
    waiting = [(Session(house), [])]
    while waiting:
        session, events = waiting.pop()
        # Without a passed day nothing is wrong.
        if session.days and any(row[0] == office for row in tried(session, [])):
            return events
        left = most - len(session.truth())
        for event in next_events(session, office, tellers, days, left):
            if event[0] == "read" and session.letters()[event[1]][1] != office:
                continue
            twin = session.copy()
            try:
                twin.do(event)
            except TooLate:
                continue
            waiting.append((twin, [*events, event]))
    return None


def all_changes(course, office, days):
    """All changes of one day that the office sees: tuples (kind, whether it is in charge, day, day on which it sees it)."""
    own, seats = {}, {}
    for life in product(course.signs, repeat=days):
        for code in product(course.rules, repeat=days):
            own[life, code] = course.own(office, life, code)
            seats[life, code] = course.seats(life, code)
    found = set()
    for life, code in own:
        for day in range(days):
            in_charge = seats[life, code][day][0] == office
            others = [("sign", (*life[:day], sign, *life[day + 1:]), code) for sign in course.signs]
            others += [("rule", life, (*code[:day], rule, *code[day + 1:])) for rule in course.rules]
            for kind, other_life, other_code in others:
                pairs = zip(own[life, code], own[other_life, other_code])
                found.update((kind, in_charge, day, at) for at, (due, other) in enumerate(pairs) if due != other)
    return found


def days_for(house, mark, change):
    """In how many days this change shows the harm of the mark, None if it never does."""
    office, word, value = mark
    kind, in_charge, day, at = change
    ways = house.ways()
    led = any(reader == office for _, reader in ways)
    bound = house.late if kind == "sign" else house.reach
    age = 60 if led or bound is None else bound
    behind = at - day
    if word in ("hears", "stands"):
        return at + 1 if word == "hears" or led else None
    if word == "again":
        return at + 1 if behind >= value and age > value else None
    if word in ("amends", "heeds", "term") and (word == "amends") != (kind == "rule"):
        return None
    if word == "amends":
        return at + 1 if age > 0 else None
    if word == "heeds":
        return at + 1 if age > 0 and not in_charge else None
    if word == "term":
        return max(at + 1, day + value + 1) if age > value else None
    return at + value + 1 if age >= behind + value + 1 else None


def fewest_days(house, mark, changes, most):
    """The fewest days for the mark, if they are no more than this, else None."""
    days = [days_for(house, mark, change) for change in changes]
    fewest = min([many for many in days if many is not None], default=None)
    return fewest if fewest is not None and fewest <= most else None


class HarmCase(Case):
    def check_harm(self, house, harm):
        """The history does what point 37 says, but for its length."""
        self.assertIsInstance(harm, Harm)
        self.assertIsInstance(harm.events, list)
        bare_house = bare_by_words(house, harm.mark)
        self.assertIn(harm.mark[0], ends_wrong(bare_house, harm.events))
        told_at = {event[1] for event in harm.events if event[0] in ENTRIES}
        self.assertTrue(told_at <= set(tellers_of(house, harm.mark)))
        self.assertLessEqual(len(harm.events), 400)


class VerdictTest(HarmCase):
    def test_right_house(self):
        for house in [House(flat_course()), House(flat_course(["x"]), ways=[], late=0, reach=0)]:
            verdict = judge(house)
            self.assertIsInstance(verdict, Verdict)
            self.assertIs(bool(verdict), True)
            self.assertEqual((verdict.harms, verdict.harmless, list(verdict)), ((), (), []))
            self.assertIsNone(assure(house))

    def test_harmful_and_harmless(self):
        practices = {"x": Practice(again=1, term=1, pays=0, stands="come"), "y": Practice(heeds="own", asks=2)}
        house = House(flat_course(), practices=practices, ways=[("x", "y")], late=2, reach=0)
        verdict = judge(house)
        self.assertIs(bool(verdict), False)
        self.assertIsInstance(verdict.harms, tuple)
        self.assertEqual([harm.mark for harm in verdict.harms], [("x", "term", 1), ("x", "pays", 0), ("x", "hears", "y")])
        self.assertEqual([harm.mark for harm in verdict], [harm.mark for harm in verdict.harms])
        self.assertEqual(verdict.harmless, (
            ("x", "again", 1), ("x", "stands", "come"), ("y", "heeds", "own"), ("y", "asks", 2),
        ))
        for harm in verdict:
            self.check_harm(house, harm)

    def test_assure(self):
        practices = {"x": Practice(again=1), "y": Practice(term=0)}
        course = Course(flat_course().book_copy(), ["x", "y"], {("x", "a"): "y", ("x", "b"): "y"})
        error = self.refused(HouseWrong, {"office": "y"}, assure, House(course, practices=practices))
        self.assertIsInstance(error.__cause__, Blamed)
        self.assertEqual(error.__cause__.mark, ("y", "term", 0))
        self.assertEqual(vars(error.__cause__), {"mark": ("y", "term", 0)})
        error = self.refused(HouseWrong, {"office": "x"}, assure, House(course, practices=practices, ways=[]))
        self.assertEqual(error.__cause__.mark, ("x", "hears", "y"))

    def test_the_same_again(self):
        rnd = seeded(311)
        for _ in range(20):
            house = made_house(rnd, made_course(rnd))
            first, second = judge(house), judge(house)
            self.assertEqual([(harm.mark, harm.events) for harm in first], [(harm.mark, harm.events) for harm in second])
            for harm in first:
                self.assertEqual(harm_of(house, harm.mark).events, harm.events)
                harm.events.clear()
                self.assertNotEqual(harm_of(house, harm.mark).events, [])

    def test_made_up(self):
        rnd, words = seeded(312), set()
        for _ in range(120):
            house = made_house(rnd, made_course(rnd, dues=(0, 0, 1, -2)))
            verdict = judge(house)
            harmful = [mark for mark in marks_of(house) if is_harmful(house, mark)]
            self.assertEqual([harm.mark for harm in verdict.harms], harmful)
            self.assertEqual(list(verdict.harmless), [mark for mark in marks_of(house) if mark not in harmful])
            self.assertIs(bool(verdict), harmful == [])
            for mark in verdict.harmless:
                self.assertIsNone(harm_of(house, mark))
            for harm in verdict:
                words.add(harm.mark[1])
                self.check_harm(house, harm)
            if harmful:
                error = self.refused(HouseWrong, {"office": harmful[0][0]}, assure, house)
                self.assertEqual(error.__cause__.mark, harmful[0])
            else:
                self.assertIsNone(assure(house))
        self.assertEqual(len(words), 8)

    def test_great_courses(self):
        rnd = seeded(313)
        for _ in range(10):
            course = made_course(rnd, 3, 3, 4, 3, dues=(0, 0, 0, 0, 1))
            if len(course.coming()) > 24:
                continue
            for harm in judge(made_house(rnd, course)):
                self.assertLessEqual(days_of(harm.events), 60)


class NoMarkTest(Case):
    def test_marks_that_are_not_there(self):
        house = House(flat_course(), practices={"x": Practice(term=1)}, ways=[("x", "y")])
        for bad in [("x", "term", 2), ("x", "term", True), ("y", "term", 1), ("y", "hears", "x"), ["x", "term", 1], None]:
            self.refused(NoMark, {"mark": bad}, harm_of, house, bad)
            self.refused(NoMark, {"mark": bad}, bare, house, bad)


class BareTest(Case):
    def test_bare(self):
        practices = {"x": Practice(term=1, pays=0), "y": Practice(asks=2)}
        house = House(flat_course(), practices=practices, purses={"y": Purse(unit=3)}, ways=[("x", "y")], late=1, reach=2)
        for mark, told in [
            (("x", "term", 1), ["term=1", "full"]), (("x", "pays", 0), ["pays=0", "full"]),
            (("y", "asks", 2), ["full", "asks=2"]), (("x", "hears", "y"), ["full", "full"]),
        ]:
            other = bare(house, mark)
            self.assertEqual([str(other.practice(office)) for office in "xy"], told)
            self.assertEqual((other.late, other.reach, list(other.ways())), (1, 2, [("x", "y")]))
            self.assertEqual((other.purse("y").unit, other.purse("x").unit), (3, 1))
            self.assertEqual(other.course.offices, ("x", "y"))
        self.assertEqual(str(house.practice("x")), "term=1 pays=0")


class ShortestTest(HarmCase):
    def test_examples(self):
        """How many days each harm takes, by hand."""
        waiting = Course(Book([("r", Waiting(AB, "b", 3, 7))]), ["x"])
        for again in [1, 2, 3]:
            # The run of b that is broken on its first day shows three days later.
            house = House(waiting, practices={"x": Practice(again=again)})
            self.assertEqual(days_of(harm_of(house, ("x", "again", again)).events), 4)
        once = Course(Book([("r", Once(AB, "b", 7))]), ["x"])
        for again in [1, 2, 3]:
            house = House(once, practices={"x": Practice(again=again)})
            self.assertEqual(days_of(harm_of(house, ("x", "again", again)).events), again + 1)
        for most in range(4):
            for word in ["term", "pays", "asks"]:
                for course in [once, flat_course(["x"])]:
                    house = House(course, practices={"x": Practice(**{word: most})})
                    self.assertEqual(days_of(harm_of(house, ("x", word, most)).events), most + 1)
        flat = flat_course()
        house = House(flat, practices={"x": Practice(amends="ahead", stands="come")}, ways=[("y", "x"), ("x", "y")])
        self.assertEqual(days_of(harm_of(house, ("x", "amends", "ahead")).events), 1)
        self.assertEqual(days_of(harm_of(house, ("x", "stands", "come")).events), 1)
        house = House(flat, ways=[])
        self.assertEqual(days_of(harm_of(house, ("x", "hears", "y")).events), 1)
        passing = Course(Book([("r", Flat(AB, (1, 5)))]), ["x", "y"], {("x", "b"): "y"})
        house = House(passing, practices={"y": Practice(heeds="own")})
        self.assertEqual(days_of(harm_of(house, ("y", "heeds", "own")).events), 2)

    def test_the_shorter_one_of_a_sign_and_a_rule(self):
        # From s back to r the run of b is full: a rule change shows in two days, a sign change in three.
        rule = Waiting(AB, "b", 2, 7)
        book = Book([("r", rule), ("s", rule)])
        book["r", "s"], book["s", "r"] = (0, 1, 2), (2, 2, 2)
        course = Course(book, ["x", "y"])
        for late, reach, again, pays in [
            (None, None, 2, 2), (None, 2, 2, 2), (None, 1, 3, 2), (None, 0, 3, 2), (2, 2, 2, 2), (1, 2, 2, 2), (2, 1, 3, 2),
            (1, 1, None, 2), (0, 1, None, 2), (0, 2, 2, 2), (0, None, 2, 2), (1, 0, None, 2), (0, 0, None, None),
        ]:
            house = House(course, practices={"x": Practice(again=1, pays=0, asks=0)}, ways=[], late=late, reach=reach)
            for mark, days in [
                (("x", "again", 1), again), (("x", "pays", 0), pays), (("x", "asks", 0), pays), (("x", "hears", "y"), 2),
            ]:
                harm = harm_of(house, mark)
                self.assertEqual(None if harm is None else days_of(harm.events), days, (late, reach, mark))
                if harm is not None:
                    self.check_harm(house, harm)
        house = House(course, practices={"x": Practice(stands="come")})
        self.assertEqual(days_of(harm_of(house, ("x", "stands", "come")).events), 2)

    def test_the_day_that_the_term_lets_go_first(self):
        # The sign of day 0 shows on day 2, that of day 1 at once: the longer the term, the more the first one is worth.
        rows = (((0, 1), (0, 2)), ((0, 1), (5, 1)), ((0, 3), (5, 3)), ((9, 3), (5, 3)))
        course = Course(Book([("r", Rule(AB, rows))]), ["x"])
        for term, days in [(0, 2), (1, 3), (2, 3), (3, 4)]:
            house = House(course, practices={"x": Practice(term=term)})
            harm = harm_of(house, ("x", "term", term))
            self.assertEqual(days_of(harm.events), days)
            self.check_harm(house, harm)

    def test_fewest_days_by_all_changes(self):
        rnd, compared = seeded(324), {}
        for dues in [(0, 0, 1, -2), (0, 0, 0, 0, 1), (0, 0, 0, 0, 0, 0, 1)]:
            for _ in range(60):
                course = made_course(rnd, 2, 2, 4, 3, dues=dues)
                changes = {office: all_changes(course, office, 4) for office in course.offices}
                for _ in range(3):
                    house = made_house(rnd, course)
                    for mark in marks_of(house):
                        days = fewest_days(house, mark, changes[mark[0]], 4)
                        harm = harm_of(house, mark)
                        if days is not None:
                            self.assertEqual(days_of(harm.events), days, mark)
                            compared[mark[1]] = compared.get(mark[1], 0) + 1
                        elif harm is not None:
                            self.assertGreater(days_of(harm.events), 4)
        self.assertEqual(len(compared), 8)

    def test_the_letter_that_is_read(self):
        """Where the change comes in a letter, it is this letter that is read, and nothing ahead of it."""
        rnd, read = seeded(325), 0
        for _ in range(80):
            house = made_house(rnd, made_course(rnd, dues=(0, 0, 1, -2)))
            for harm in judge(house):
                session, office = Session(bare(house, harm.mark)), harm.mark[0]
                for event in harm.events:
                    if event[0] == "read":
                        read += 1
                        numbers = [entry[0] for entry in session.file(office).entries()]
                        lacking = [number + 1 for number in range(len(session.truth())) if number + 1 not in numbers]
                        self.assertEqual(session.letters()[event[1]][1:], (office, *lacking))
                    session.do(event)
        self.assertGreater(read, 40)

    def test_the_letter_among_several_offices(self):
        """Whichever ways there are among three offices, the first letter that is read brings the change."""
        rule = Waiting(AB, "b", 1, 7)
        book = Book([("r", rule), ("s", Flat(AB, (0, 1)))])
        course = Course(book, ["x", "y", "z"], {("x", "b"): "y", ("y", "b"): "z", ("z", "b"): "x"})
        pairs = [(writer, reader) for writer in "xyz" for reader in "xyz" if writer != reader]
        marks = [("term", 1), ("stands", "come"), ("amends", "ahead"), ("again", 1), ("pays", 0), ("asks", 0), ("heeds", "own")]
        for chosen in product([False, True], repeat=6):
            ways = [pair for pair, there in zip(pairs, chosen) if there]
            for office in {reader for _, reader in ways}:
                for word, value in marks:
                    house = House(course, practices={office: Practice(**{word: value})}, ways=ways, late=0, reach=0)
                    harm = harm_of(house, (office, word, value))
                    self.check_harm(house, harm)
                    session = Session(house)
                    reads = [event for event in harm.events if event[0] == "read"]
                    self.assertEqual(len(reads), 1)
                    for event in harm.events[: harm.events.index(reads[0])]:
                        session.do(event)
                    before = session.file(office).entries()
                    session.do(reads[0])
                    told = [entry for entry in session.file(office).entries() if entry not in before]
                    self.assertEqual(told, [entry for entry in session.truth() if entry not in before])

    def small_house(self, rnd, word, value):
        course = made_course(rnd, 2, 2, 2, 2, dues=(0, 0, 1, -2))
        office = rnd.choice(course.offices)
        practices = {} if word == "hears" else {office: Practice(**{word: value})}
        house = made_house(rnd, course)
        return office, House(course, practices=practices, ways=list(house.ways()), late=house.late, reach=house.reach)

    def marks_to_search(self, rnd, many):
        """For each word and value some houses with this mark alone, and the office of the mark."""
        for word, values in [*WEAK.items(), ("hears", [None])]:
            for value in values:
                found = 0
                while found < many:
                    office, house = self.small_house(rnd, word, value)
                    for mark in marks_of(house):
                        if mark[0] == office and mark[1] == word:
                            found += 1
                            yield mark, house

    def test_search_through_all_short_histories(self):
        rnd, searched = seeded(321), {True: 0, False: 0}
        for mark, house in self.marks_to_search(rnd, 4):
            harm = harm_of(house, mark)
            days = 2 if harm is None else days_of(harm.events) - 1
            if days == 0 or days > 2:
                continue
            searched[harm is None] += 1
            found = wrong_history(house, mark[0], tellers_of(house, mark), days, 2)
            self.assertIsNone(found, (mark, found))
        self.assertGreater(min(searched.values()), 5, searched)

    def test_search_finds_what_there_is(self):
        """The search is able to: where a harm needs no more than it tries, it finds one."""
        rnd, found, short = seeded(322), 0, 0
        for mark, house in self.marks_to_search(rnd, 3):
            harm = harm_of(house, mark)
            if harm is None or days_of(harm.events) > 2:
                continue
            if len([event for event in harm.events if event[0] in ENTRIES]) <= 2:
                short += 1
                tellers = tellers_of(house, mark)
                found += wrong_history(house, mark[0], tellers, days_of(harm.events), 2) is not None
        self.assertEqual(found, short)
        self.assertGreater(short, 10)

    def test_made_up_histories(self):
        rnd, many = seeded(323), 0
        for mark, house in self.marks_to_search(rnd, 12):
            harm = harm_of(house, mark)
            days = rnd.randint(1, 5) if harm is None else days_of(harm.events) - 1
            if days == 0:
                continue
            if harm is not None:
                self.check_harm(house, harm)
            for _ in range(12):
                events = made_history(rnd, house, days, rnd.randint(2, 12), tellers_of(house, mark))
                many += 1
                self.assertNotIn(mark[0], ends_wrong(house, events), (mark, events))
        self.assertGreater(many, 1000)


class BlamedTest(Case):
    def test_examples(self):
        house = House(flat_course(["x"]), practices={"x": Practice(term=0, pays=1, asks=1)})
        late = [("day",), ("tell", "x", 0, "b")]
        self.assertEqual(blamed(house, late), [("x", "term", 0)])
        # With the term alone made full, the day is too far back to be paid.
        late = [("day",), ("day",), ("tell", "x", 0, "b")]
        self.assertEqual(blamed(house, late), [])
        self.assertEqual(blamed(house.with_mark("x", "pays", None), late), [("x", "term", 0)])
        self.assertEqual(blamed(house.with_mark("x", "term", None), late), [("x", "pays", 1)])
        self.assertEqual(blamed(house, [("day",), ("day",)]), [])

    def test_any_office_ends_wrong(self):
        practices = {"x": Practice(term=0), "y": Practice(pays=0)}
        course = Course(Book([("r", Flat(AB, (1, 5)))]), ["x", "y"], {("x", "a"): "y", ("x", "b"): "y"})
        house = House(course, practices=practices)
        both = [("day",), ("day",), ("tell", "x", 0, "b"), ("read", 0), ("tell", "y", 1, "b")]
        self.assertEqual(ends_wrong(house, both), ("x", "y"))
        self.assertEqual(blamed(house, both), [])
        self.assertEqual(blamed(house, [("day",), ("tell", "x", 0, "b")]), [("x", "term", 0)])

    def test_hears_marks_are_not_blamed(self):
        house = House(flat_course(), ways=[])
        events = [("tell", "y", 0, "b"), ("day",)]
        self.assertEqual(ends_wrong(house, events), ("x",))
        self.assertEqual(blamed(house, events), [])

    def test_appeals_are_never_refused_with_a_full_term(self):
        house = House(flat_course(["x"]), practices={"x": Practice(term=1)})
        events = [("day",), ("appeal", "x", 0), ("day",), ("day",), ("tell", "x", 1, "b")]
        self.assertEqual(blamed(house, events), [("x", "term", 1)])
        self.refused(BadEvent, {"event": 0}, blamed, house, [0])

    def test_made_up(self):
        rnd, words = seeded(331), set()
        for _ in range(150):
            house = made_house(rnd, made_course(rnd, 2, 2, 3, 2, dues=(0, 1, -2)))
            for _ in range(6):
                events = made_history(rnd, house, rnd.randint(1, 5), rnd.randint(2, 10))
                expected = []
                if ends_wrong(house, events):
                    for office, word, value in marks_of(house):
                        if word != "hears" and not ends_wrong(house.with_mark(office, word, FULL[word]), events):
                            expected.append((office, word, value))
                self.assertEqual(blamed(house, events), expected)
                words.update(mark[1] for mark in expected)
        self.assertGreater(len(words), 5)

    def test_each_harm_is_blamed_on_its_mark(self):
        rnd = seeded(332)
        for _ in range(60):
            house = made_house(rnd, made_course(rnd, dues=(0, 1, -2)))
            for harm in judge(house):
                if harm.mark[1] != "hears" and len(ends_wrong(bare(house, harm.mark), harm.events)) == 1:
                    self.assertEqual(blamed(bare(house, harm.mark), harm.events), [harm.mark])


if __name__ == "__main__":
    unittest.main()
