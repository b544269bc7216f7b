"""Points 27 and 28: which changes an office sees, and how far behind them."""

import unittest
from itertools import product

from duehouse.books import Book
from duehouse.courses import Course
from duehouse.errors import Unknown
from duehouse.kinds import Flat, Once, Spell, Upto, Waiting
from duehouse.rules import Rule
from duehouse.spreads import endless, rule_difference, rule_spread, sign_difference, sign_spread
from tests.support import Case, all_lives, made_course, seeded

AB = ("a", "b")


def one_rule(rule, offices=("x",), charges=None):
    return Course(Book([("r", rule)]), list(offices), charges)


def fading_rule(rnd, signs):
    """A rule of which the days long ago do not count for ever."""
    kind = rnd.randrange(3)
    if kind == 0:
        return Waiting(signs, rnd.choice(signs), rnd.randint(0, 2), 5)
    if kind == 1:
        return Spell(signs, rnd.choice(signs), rnd.randint(1, 2), 5)
    states = rnd.randint(2, 4)
    rows = [[(rnd.choice([0, 0, 1]), rnd.randint(at + 1, states - 1)) for _ in signs] for at in range(states - 1)]
    rows.append([(0, states - 1) for _ in signs])
    return Rule(signs, tuple(tuple(row) for row in rows))


def fading_course(rnd, signs=2, rules=2, offices=2):
    """A course, made up, of which many spreads have a greatest number."""
    signs = ("a", "b", "c")[: rnd.randint(2, signs)]
    book = Book([("rst"[at], fading_rule(rnd, signs)) for at in range(rnd.randint(1, rules))])
    for old, new in product(book.names, repeat=2):
        if old != new:
            most = len(book.rule_named(new)) - 1
            book[old, new] = tuple(rnd.choice([None, rnd.randint(0, most)]) for _ in book.rule_named(old))
    names = ("x", "y")[: rnd.randint(1, offices)]
    charges = {pair: rnd.choice(names) for pair in product(names, signs) if rnd.random() < 0.4}
    return Course(book, names, charges)


class Search:
    """All that an office sees, by walking on from all seats to which lives and codes lead."""

    def __init__(self, course, office):
        self.course, self.office, self.turns = course, office, course.turns()
        self.steps, self.depths = {}, {course.start: 0}
        layer = [course.start]
        while layer:
            behind = []
            for seat in layer:
                for rule, sign in self.turns:
                    due, other = course.step(seat, rule, sign)
                    self.steps[seat, rule, sign] = (due if seat[0] == office else 0, other)
                    if other not in self.depths:
                        self.depths[other] = self.depths[seat] + 1
                        behind.append(other)
            layer = behind

    def day(self, pairs):
        """Whether a difference is seen on a day behind these pairs of seats, and the pairs behind the day."""
        seen, behind = False, set()
        for one, two in pairs:
            for rule, sign in self.turns:
                due, after = self.steps[one, rule, sign]
                beside, other = self.steps[two, rule, sign]
                seen = seen or due != beside
                if after != other:
                    behind.add(tuple(sorted([after, other])))
        return seen, frozenset(behind)

    def days_seen(self, pairs):
        """Behind these pairs: the days on which a difference is seen, and whether they never end."""
        pairs, met, seen = frozenset(pairs), {}, []
        while pairs and pairs not in met:
            met[pairs] = len(met) + 1
            shown, behind = self.day(pairs)
            if shown:
                seen.append(met[pairs])
            pairs = behind
        return seen, bool(pairs) and any(day >= met[pairs] for day in seen)

    def first_seen(self, pairs, least, most):
        """The first day from `least` to `most` on which a difference is seen behind the pairs, or None."""
        for day in range(1, most + 1):
            seen, pairs = self.day(pairs)
            if seen and day >= least:
                return day
            if not pairs:
                return None
        return None

    def sign_changes(self):
        """Tuples (seat, seen on the day itself, pairs behind it)."""
        for seat in self.depths:
            for rule in self.course.rules:
                for one, two in product(self.course.signs, repeat=2):
                    if one != two:
                        due, after = self.steps[seat, rule, one]
                        beside, other = self.steps[seat, rule, two]
                        yield seat, due != beside, {(after, other)} if after != other else set()

    def rule_changes(self, most):
        """Tuples (seat, days changed, seen on the last of them, pairs behind it)."""
        for seat in self.depths:
            for old, new in product(self.course.rules, repeat=2):
                pairs = {(seat, seat)}
                for days in range(1, most + 1):
                    seen, behind = False, set()
                    for (one, two), sign in product(pairs, self.course.signs):
                        due, after = self.steps[one, old, sign]
                        beside, other = self.steps[two, new, sign]
                        seen = seen or due != beside
                        behind.add((after, other))
                    pairs = behind
                    if old != new:
                        yield seat, days, seen, {pair for pair in pairs if pair[0] != pair[1]}

    def spread(self, changes):
        """The spread of changes (days ahead of the last changed day, seen on it, pairs behind it)."""
        nears, fars = [], []
        for ahead, seen, pairs in changes:
            days, endless_ones = self.days_seen(pairs)
            if seen:
                nears.append(ahead)
                fars.append(0)
            if days:
                nears.append(ahead + days[0])
                fars.append(10 ** 9 if endless_ones else days[-1])
        if not nears:
            return None
        return min(nears), None if max(fars) == 10 ** 9 else max(fars)

    def sign_spread(self):
        return self.spread([(0, seen, pairs) for _, seen, pairs in self.sign_changes()])

    def rule_spread(self, most):
        return self.spread([(days - 1, seen, pairs) for _, days, seen, pairs in self.rule_changes(most)])


def replaced(track, first, last, name):
    return (*track[:first], *[name] * (last - first + 1), *track[last + 1:])


def seen_on(course, office, histories):
    """The days on which the own dues of two histories differ."""
    one, two = [course.own(office, *history) for history in histories]
    return [day for day in range(len(one)) if one[day] != two[day]]


class SpreadTest(Case):
    def test_usual_rules(self):
        for rule, spread in [
            (Flat(AB, (1, 1)), None),
            (Flat(AB, (1, 2)), (0, 0)),
            (Waiting(AB, "a", 2, 5), (0, 2)),
            (Waiting(AB, "b", 3, 5), (0, 3)),
            (Spell(AB, "a", 2, 5), (0, 2)),
            (Upto(AB, "a", 2, 5), (0, None)),
            (Once(AB, "b", 5), (0, None)),
            (Upto(AB, "a", 3, 0), None),
        ]:
            self.assertEqual(sign_spread(one_rule(rule), "x"), spread)
            self.assertIsNone(rule_spread(one_rule(rule), "x"))
        self.assertIsNone(sign_spread(one_rule(Flat(("a",), (1,))), "x"))

    def test_near_above_0(self):
        # The first day leads to state 1 or 2; what it was shows from state 3 on.
        ends = Rule(AB, (((0, 1), (0, 2)), ((0, 1), (0, 1)), ((0, 3), (0, 3)), ((5, 1), (5, 1))))
        self.assertEqual(sign_spread(one_rule(ends), "x"), (2, 2))
        goes_on = Rule(AB, (((0, 1), (0, 2)), ((0, 1), (0, 1)), ((0, 3), (0, 3)), ((5, 2), (5, 2))))
        self.assertEqual(sign_spread(one_rule(goes_on), "x"), (2, None))
        at_once = Rule(AB, (((0, 1), (0, 2)), ((0, 3), (0, 3)), ((5, 3), (0, 3)), ((0, 3), (0, 3))))
        self.assertEqual(sign_spread(one_rule(at_once), "x"), (0, 1))
        next_day = Rule(AB, (((0, 1), (0, 2)), ((0, 3), (0, 3)), ((5, 3), (5, 3)), ((0, 3), (0, 3))))
        self.assertEqual(sign_spread(one_rule(next_day), "x"), (1, 1))

    def test_offices(self):
        course = one_rule(Flat(AB, (1, 2)), "xyz", {("x", "b"): "y", ("y", "b"): "x"})
        self.assertEqual(sign_spread(course, "x"), (0, None))
        self.assertEqual(sign_spread(course, "y"), (0, None))
        self.assertIsNone(sign_spread(course, "z"))
        self.assertIsNone(rule_spread(course, "z"))
        # The office y is in charge of the day behind one with b, and of no other.
        course = one_rule(Flat(AB, (3, 3)), "xy", {("x", "b"): "y", ("y", "a"): "x", ("y", "b"): "x"})
        self.assertEqual(sign_spread(course, "y"), (1, None))

    def test_rules(self):
        book = Book([("r", Flat(AB, (1, 2))), ("s", Flat(AB, (1, 3)))])
        self.assertEqual(rule_spread(Course(book, ["x"]), "x"), (0, 0))
        same = Book([("r", Flat(AB, (1, 2))), ("s", Flat(AB, (1, 2)))])
        self.assertIsNone(rule_spread(Course(same, ["x"]), "x"))
        book = Book([("r", Flat(AB, (0, 0))), ("s", Upto(AB, "a", 2, 0)), ("t", Once(AB, "a", 5))])
        book["s", "t"] = (0, 1, 1)
        # What shows is whether t begins in state 0 or 1.
        self.assertEqual(rule_spread(Course(book, ["x"]), "x"), (0, None))

    def test_rules_by_days(self):
        # Three days of s lead to a state that the table to r carries over.
        rows = tuple([((0, min(state + 1, 3)), (0, min(state + 1, 3))) for state in range(4)])
        base = Rule(AB, (((0, 0), (0, 0)), ((7, 2), (7, 2)), ((7, 0), (7, 0))))
        book = Book([("r", base), ("s", Rule(AB, rows))])
        book["s", "r"] = (0, 0, 0, 1)
        course = Course(book, ["x"])
        search = Search(course, "x")
        for most in [1, 2, 3, 4]:
            self.assertEqual(search.rule_spread(most), (0, 4))
            self.assertEqual(rule_spread(course, "x", most), (0, 4))
            self.assertEqual(rule_spread(course, "x", most=most), (0, 4))
        self.assertEqual(rule_spread(course, "x"), (0, 4))

    def test_unknown(self):
        course = made_course(seeded(130))
        for call in [
            sign_spread, rule_spread, lambda told, office: rule_spread(told, office, 2), sign_difference,
            rule_difference, lambda told, office: endless(told, office, "sign"),
            lambda told, office: endless(told, office, "rule"),
        ]:
            for bad in ["q", "", None, True, 0, []]:
                self.refused(Unknown, {"name": bad}, call, course, bad)

    def test_made_up_courses(self):
        rnd = seeded(131)
        signs, rules = set(), set()
        for at in range(300):
            course = fading_course(rnd) if at % 2 else made_course(rnd, 3, 3, 3, 2, (0, 0, 0, 0, 1))
            if len(course.coming()) > 9:
                continue
            for office in course.offices:
                search = Search(course, office)
                self.assertEqual(sign_spread(course, office), search.sign_spread())
                signs.add(sign_spread(course, office))
                for most in [1, 2, 3]:
                    self.assertEqual(rule_spread(course, office, most), search.rule_spread(most))
                    rules.add((most, rule_spread(course, office, most)))
                # Pairs of seats under two rules come again behind so many days.
                self.assertEqual(rule_spread(course, office), search.rule_spread(14))
                rules.add(rule_spread(course, office))
        self.assertTrue({None, (0, 0), (0, 1), (0, 2), (1, 2), (0, None), (1, None)} <= signs)
        self.assertTrue({None, (0, 0), (0, 1), (0, 2), (0, None)} <= rules)
        self.assertTrue({(1, None), (2, None), (1, (0, 0)), (2, (0, 1)), (1, (1, None)), (3, (1, None))} <= rules)


class SignDifferenceTest(Case):
    def check(self, course, office, **bounds):
        found = sign_difference(course, office, **bounds)
        self.assertEqual(sign_difference(course, office, **bounds), found)
        if found is None:
            return None
        self.assertIsInstance(found, tuple)
        life, code, day, sign, at = found
        self.assertIsInstance(life, tuple)
        self.assertIsInstance(code, tuple)
        self.assertIn(day, range(len(life)))
        self.assertNotEqual(life[day], sign)
        changed = replaced(life, day, day, sign)
        self.assertIn(at, seen_on(course, office, [(life, code), (changed, code)]))
        self.assertGreaterEqual(at - day, bounds.get("least", 0))
        if bounds.get("within") is not None:
            self.assertLessEqual(at - day, bounds["within"])
        self.assertGreaterEqual(len(life) - day, bounds.get("wait", 0))
        if bounds.get("foreign"):
            self.assertNotEqual(course.run(life, code)[day][0], office)
        return len(life)

    def fewest(self, search, office, least=0, within=None, wait=0, foreign=False):
        lengths = []
        most = 40 if within is None else within
        for seat, seen, pairs in search.sign_changes():
            if foreign and seat[0] == office:
                continue
            at = 0 if seen and least == 0 and most >= 0 else search.first_seen(pairs, least, most)
            if at is not None:
                lengths.append(search.depths[seat] + max(at + 1, wait))
        return min(lengths, default=None)

    def test_examples(self):
        course = one_rule(Upto(AB, "a", 2, 5))
        self.assertEqual(self.check(course, "x"), 1)
        self.assertEqual(self.check(course, "x", least=1), 3)
        self.assertEqual(self.check(course, "x", wait=6), 6)
        self.assertEqual(self.check(course, "x", least=50), 51)
        self.assertEqual(self.check(course, "x", least=50, within=50, wait=60), 60)
        self.assertIsNone(self.check(course, "x", within=-1))
        self.assertIsNone(self.check(course, "x", least=2, within=1))
        self.assertIsNone(self.check(course, "x", foreign=True))
        course = one_rule(Waiting(AB, "a", 2, 5))
        self.assertEqual(self.check(course, "x"), 3)
        self.assertEqual(self.check(course, "x", least=2), 3)
        self.assertIsNone(self.check(course, "x", least=3))

    def test_the_shortest_life_is_not_that_with_the_nearest_day(self):
        # A change of day 0 is seen a day later, one that is seen at once is possible from day 2 on.
        rows = (((0, 1), (0, 2)), ((0, 1), (0, 1)), ((1, 3), (1, 3)), ((5, 3), (0, 3)))
        course = one_rule(Rule(AB, rows))
        search = Search(course, "x")
        for bounds, days in [
            ({}, 2), ({"within": 0}, 3), ({"wait": 3}, 3), ({"within": 0, "wait": 3}, 5), ({"least": 2}, 3),
            ({"within": 0, "wait": 1}, 3), ({"within": 1, "wait": 2}, 2),
        ]:
            self.assertEqual(self.check(course, "x", **bounds), days)
            self.assertEqual(self.fewest(search, "x", **bounds), days)
        # A change of day 0 is seen two days later, one of day 1 at once.
        rows = (((0, 1), (0, 2)), ((0, 1), (5, 1)), ((0, 3), (5, 3)), ((1, 3), (6, 3)))
        self.assertEqual(self.check(one_rule(Rule(AB, rows)), "x"), 2)
        self.assertEqual(self.check(one_rule(Rule(AB, rows)), "x", least=1), 3)

    def test_all_lives(self):
        rnd = seeded(132)
        met = set()
        for at in range(100):
            course = fading_course(rnd) if at % 2 else made_course(rnd, 2, 2, 3, 2, (0, 0, 1))
            office = rnd.choice(course.offices)
            bounds = {
                "least": rnd.choice([0, 0, 1, 2]), "within": rnd.choice([None, None, 0, 1, 2]),
                "wait": rnd.choice([0, 0, 2, 3]), "foreign": rnd.random() < 0.3,
            }
            found = self.check(course, office, **bounds)
            most = 3 if len(course.turns()) > 2 else 5
            least = self.by_lives(course, office, most, **bounds)
            if found is None or found > most:
                self.assertIsNone(least)
            else:
                self.assertEqual(found, least)
            met.add((found, bounds["wait"] == 3, bounds["foreign"]))
        self.assertTrue({(None, True, True), (1, False, False), (2, False, True), (3, True, False)} <= met)

    def by_lives(self, course, office, most, least, within, wait, foreign):
        for life in all_lives(course.signs, most):
            for code in product(course.rules, repeat=len(life)):
                for day, sign in product(range(len(life)), course.signs):
                    if sign == life[day] or len(life) - day < wait:
                        continue
                    if foreign and course.run(life, code)[day][0] == office:
                        continue
                    days = seen_on(course, office, [(life, code), (replaced(life, day, day, sign), code)])
                    if any(at - day >= least and (within is None or at - day <= within) for at in days):
                        return len(life)
        return None

    def test_made_up_courses(self):
        rnd = seeded(133)
        met = set()
        for at in range(200):
            course = fading_course(rnd, 3, 3) if at % 2 else made_course(rnd, 3, 3, 3, 3, (0, 0, 0, 1))
            if len(course.coming()) > 12:
                continue
            office = rnd.choice(course.offices)
            search = Search(course, office)
            for _ in range(4):
                least = rnd.choice([0, 0, 1, 2, 3, 5, 9])
                bounds = {
                    "least": least, "within": rnd.choice([None, None, least, least + 1, least + 3]),
                    "wait": rnd.choice([0, 0, 3, 8]), "foreign": rnd.random() < 0.3,
                }
                found = self.check(course, office, **bounds)
                self.assertEqual(found, self.fewest(search, office, **bounds))
                met.add((found, bounds["foreign"], bounds["within"] is None))
        self.assertGreater(len(met), 25)


class RuleDifferenceTest(Case):
    def check(self, course, office, **bounds):
        found = rule_difference(course, office, **bounds)
        self.assertEqual(rule_difference(course, office, **bounds), found)
        if found is None:
            return None
        self.assertIsInstance(found, tuple)
        life, code, day, last, rule, at = found
        self.assertIsInstance(life, tuple)
        self.assertIsInstance(code, tuple)
        self.assertEqual(at, len(life) - 1)
        self.assertTrue(0 <= day <= last <= at)
        self.assertEqual(len(set(code[day:last + 1])), 1)
        self.assertNotEqual(code[day], rule)
        changed = replaced(code, day, last, rule)
        self.assertIn(at, seen_on(course, office, [(life, code), (life, changed)]))
        if bounds.get("most") is not None:
            self.assertLessEqual(last - day + 1, bounds["most"])
        self.assertGreaterEqual(at - last, bounds.get("least", 0))
        if bounds.get("within") is not None:
            self.assertLessEqual(at - day, bounds["within"])
        return len(life)

    def fewest(self, search, most=None, least=0, within=None):
        lengths = []
        for seat, days, seen, pairs in search.rule_changes(10 if most is None else most):
            rest = 25 if within is None else within - days + 1
            at = 0 if seen and least == 0 and rest >= 0 else search.first_seen(pairs, least, rest)
            if at is not None:
                lengths.append(search.depths[seat] + days + at)
        return min(lengths, default=None)

    def test_examples(self):
        book = Book([("r", Flat(AB, (0, 0))), ("s", Upto(AB, "a", 3, 0)), ("t", Flat(AB, (0, 0)))])
        self.assertIsNone(self.check(Course(book, ["x"]), "x"))
        book = Book([("r", Upto(AB, "a", 2, 5)), ("s", Upto(AB, "b", 2, 5))])
        course = Course(book, ["x"])
        self.assertEqual(self.check(course, "x"), 1)
        self.assertEqual(self.check(course, "x", least=4, most=1), 5)
        self.assertIsNone(self.check(course, "x", least=4, within=3))
        self.assertEqual(self.check(course, "x", least=4, within=4), 5)
        self.assertIsNone(self.check(course, "x", within=-1))
        self.assertIsNone(self.check(one_rule(Upto(AB, "a", 2, 5)), "x"))

    def test_the_shortest_life_is_not_that_with_the_nearest_day(self):
        # A change of day 0 is seen a day later, one that is seen at once is possible from day 2 on.
        first = Rule(("a",), (((0, 1),), ((0, 2),), ((1, 1),)))
        second = Rule(("a",), (((0, 1),), ((1, 1),)))
        book = Book([("r", first), ("s", second)])
        book["s", "r"] = (0, 2)
        course = Course(book, ["x"])
        search = Search(course, "x")
        for bounds, days in [({}, 2), ({"within": 0}, 3), ({"within": 1}, 2), ({"least": 1, "most": 1}, 2)]:
            self.assertEqual(self.check(course, "x", **bounds), days)
            self.assertEqual(self.fewest(search, **bounds), days)

    def test_a_long_life_ahead(self):
        # Three days of s are needed until r shows anything.
        rows = tuple([((0, min(state + 1, 3)), (0, min(state + 1, 3))) for state in range(4)])
        base = Rule(AB, (((0, 0), (0, 0)), ((7, 2), (7, 2)), ((7, 0), (7, 0))))
        book = Book([("r", base), ("s", Rule(AB, rows))])
        book["s", "r"] = (0, 0, 0, 1)
        course = Course(book, ["x"])
        for bounds, days in [
            ({}, 4), ({"most": 1}, 4), ({"within": 0}, 4), ({"least": 1}, 4), ({"least": 3, "most": 2}, 4),
            ({"least": 4, "within": 4}, 5), ({"least": 5}, None), ({"least": 4, "within": 3}, None),
        ]:
            self.assertEqual(self.check(course, "x", **bounds), days)
            self.assertEqual(self.fewest(Search(course, "x"), **bounds), days)

    def test_all_lives(self):
        rnd = seeded(134)
        met = set()
        for at in range(80):
            course = fading_course(rnd) if at % 2 else made_course(rnd, 2, 2, 3, 2, (0, 0, 1))
            office = rnd.choice(course.offices)
            bounds = {
                "most": rnd.choice([None, 1, 2]), "least": rnd.choice([0, 0, 1, 2]),
                "within": rnd.choice([None, None, 0, 1, 2]),
            }
            found = self.check(course, office, **bounds)
            least = self.by_lives(course, office, 3, **bounds)
            if found is None or found > 3:
                self.assertIsNone(least)
            else:
                self.assertEqual(found, least)
            met.add(found)
        self.assertTrue({None, 1, 2, 3} <= met)

    def by_lives(self, course, office, days, **bounds):
        for life in all_lives(course.signs, days):
            for code in product(course.rules, repeat=len(life)):
                for day, rule in product(range(len(life)), course.rules):
                    if rule != code[day] and self.is_seen(course, office, life, code, day, rule, **bounds):
                        return len(life)
        return None

    def is_seen(self, course, office, life, code, day, rule, most, least, within):
        for last in range(day, len(life)):
            if code[last] != code[day] or (most is not None and last - day + 1 > most):
                return False
            days = seen_on(course, office, [(life, code), (life, replaced(code, day, last, rule))])
            if any(at - last >= least and (within is None or at - day <= within) for at in days):
                return True
        return False

    def test_made_up_courses(self):
        rnd = seeded(135)
        met = set()
        for at in range(200):
            course = fading_course(rnd) if at % 2 else made_course(rnd, 2, 3, 3, 2, (0, 0, 0, 1))
            if len(course.coming()) > 9:
                continue
            office = rnd.choice(course.offices)
            search = Search(course, office)
            for _ in range(3):
                least = rnd.choice([0, 0, 1, 2, 3, 5])
                bounds = {
                    "most": rnd.choice([None, None, 1, 2, 3]), "least": least,
                    "within": rnd.choice([None, None, least, least + 1, least + 3]),
                }
                found = self.check(course, office, **bounds)
                self.assertEqual(found, self.fewest(search, **bounds))
                met.add((found, bounds["most"], bounds["within"] is None))
        self.assertGreater(len(met), 25)


class EndlessTest(Case):
    def check(self, course, office, kind):
        found = endless(course, office, kind)
        self.assertEqual(endless(course, office, kind), found)
        spread = sign_spread(course, office) if kind == "sign" else rule_spread(course, office)
        self.assertIs(found is None, spread is None or spread[1] is not None)
        if found is None:
            return None
        self.assertIsInstance(found, tuple)
        life, code, day, last, name, lead, ring, tail = found
        self.assertEqual(last, len(life) - 1)
        self.assertEqual((life.__class__, code.__class__), (tuple, tuple))
        for turns in [lead, ring, tail]:
            self.assertIsInstance(turns, list)
            self.assertTrue(all(turn in course.turns() for turn in turns))
        self.assertTrue(ring and tail)
        if kind == "sign":
            self.assertEqual(day, last)
            self.assertNotEqual(life[day], name)
            others = (replaced(life, day, last, name), code)
        else:
            self.assertEqual(set(code[day:]), {code[day]})
            self.assertNotEqual(code[day], name)
            others = (life, replaced(code, day, last, name))
        for times in [0, 1, 2, 3, 7, 20]:
            turns = lead + ring * times + tail
            signs, rules = tuple(sign for _, sign in turns), tuple(rule for rule, _ in turns)
            histories = [(track[0] + signs, track[1] + rules) for track in [(life, code), others]]
            days = len(life) + len(turns)
            self.assertIn(days - 1, seen_on(course, office, histories))
        return len(lead), len(ring), len(tail)

    def test_examples(self):
        self.assertIsNone(self.check(one_rule(Waiting(AB, "a", 2, 5)), "x", "sign"))
        self.assertIsNone(self.check(one_rule(Flat(AB, (1, 1))), "x", "sign"))
        self.assertIsNone(self.check(one_rule(Once(AB, "a", 5)), "x", "rule"))
        self.assertIsNotNone(self.check(one_rule(Once(AB, "a", 5)), "x", "sign"))
        book = Book([("r", Flat(AB, (0, 0))), ("s", Upto(AB, "a", 2, 0)), ("t", Once(AB, "a", 5))])
        book["s", "t"] = (0, 1, 1)
        self.assertIsNotNone(self.check(Course(book, ["x"]), "x", "rule"))

    def test_a_lead_and_a_long_ring(self):
        # From state 1 on all days go around three states of which one shows something.
        rows = (((0, 0), (0, 1)), ((0, 2), (0, 2)), ((0, 3), (0, 3)), ((9, 1), (9, 1)))
        self.assertIsNotNone(self.check(one_rule(Rule(AB, rows)), "x", "sign"))
        # State 2 alone leads to the ring, state 1 to nothing.
        rows = (((0, 1), (0, 2)), ((0, 1), (0, 1)), ((0, 3), (0, 3)), ((9, 2), (9, 2)))
        lead, ring, tail = self.check(one_rule(Rule(AB, rows)), "x", "sign")
        self.assertEqual(ring % 2, 0)

    def test_made_up_courses(self):
        rnd = seeded(136)
        met = set()
        for at in range(250):
            course = fading_course(rnd, 3, 3) if at % 3 == 0 else made_course(rnd, 3, 3, 3, 3, (0, 0, 0, 1))
            office = rnd.choice(course.offices)
            met.add(("sign", self.check(course, office, "sign")))
            met.add(("rule", self.check(course, office, "rule")))
        self.assertTrue({("sign", None), ("rule", None), ("sign", (0, 1, 1)), ("rule", (0, 1, 1))} <= met)
        self.assertTrue({told[0] > 0 for _, told in met if told} == {told[1] > 1 for _, told in met if told} == {True, False})


class BoundsTest(Case):
    def test_twenty_four_seats(self):
        rnd = seeded(137)
        checked = 0
        while checked < 4:
            course = made_course(rnd, 3, 3, 4, 3, (0, 0, 0, 0, 0, 1))
            if not 20 <= len(course.coming()) <= 24 or len(course.turns()) < 9:
                continue
            checked += 1
            for office in course.offices:
                EndlessTest.check(self, course, office, "sign")
                EndlessTest.check(self, course, office, "rule")
                SignDifferenceTest.check(self, course, office, least=30, wait=60)
                RuleDifferenceTest.check(self, course, office, least=30, within=40)
                rule_spread(course, office, 3)


if __name__ == "__main__":
    unittest.main()
