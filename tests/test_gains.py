"""Point 40: the greatest gain and loss of late words, held against a search through all short ones."""

import unittest
from itertools import product

from duehouse.books import Book
from duehouse.courses import Course
from duehouse.errors import TooMany, Unknown
from duehouse.files import File
from duehouse.gains import Gain, greatest_gain, greatest_loss
from duehouse.houses import House
from duehouse.kinds import Flat, Once, Waiting
from duehouse.practices import Practice
from duehouse.rules import Rule
from duehouse.sessions import Session
from tests.support import WEAK, Case, made_course, seeded

AB = ("a", "b")


def house_of(rules, late=None, offices=("x",), charges=None, **marks):
    """A house whose offices all have a practice with these marks."""
    course = Course(Book([("rs"[at], rule) for at, rule in enumerate(rules)]), offices, charges)
    return House(course, practices={office: Practice(**marks) for office in offices}, late=late, reach=0)


def word_of(house, office, turns, day, sign):
    """The late word of these turns, as point 40 tells it."""
    events, rule = [], house.course.rules[0]
    for at, turn in enumerate(turns):
        events += [("tell", office, at, turn[1])] * (turn[1] != house.course.signs[0])
        events += [("amend", office, at, turn[0])] * (turn[0] != rule)
        events.append(("day",))
        rule = turn[0]
    return [*events, ("tell", office, day, sign)]


def all_words(house, office, days):
    """All late words of so many days."""
    for turns in product(house.course.turns(), repeat=days):
        for day, sign in product(range(days), house.course.signs):
            if sign != turns[day][1] and (house.late is None or days - day <= house.late):
                yield word_of(house, office, turns, day, sign)


def gain_of(house, office, events):
    """What the file of the office has booked at the end, less the own dues by the truth; without a session."""
    file, number, life, code = File(house.course, office, house.practice(office)), 0, [], []
    signs, rules = {}, {}
    for event in events:
        if event == ("day",):
            file.pass_day()
            continue
        number += 1
        form, held = ("sign", signs) if event[0] == "tell" else ("rule", rules)
        held[event[2]] = event[3]
        if event[2] < 60:
            file.read((number, form, *event[2:]))
    rule = house.course.rules[0]
    for day in range(file.days):
        rule = rules.get(day, rule)
        life.append(signs.get(day, house.course.signs[0]))
        code.append(rule)
    return file.total() - sum(house.course.own(office, life, code))


def turns_of(house, office, events):
    """The turns, the day and the sign of a late word, or None if this is none."""
    turns, sign, rule = [], house.course.signs[0], house.course.rules[0]
    for event in events[:-1]:
        if event == ("day",):
            turns.append((rule, sign))
            sign = house.course.signs[0]
        elif event[0] == "tell" and event[1:3] == (office, len(turns)):
            sign = event[3]
        elif event[0] == "amend" and event[1:3] == (office, len(turns)):
            rule = event[3]
        else:
            return None
    form, told_at, day, told = events[-1]
    return (turns, day, told) if form == "tell" and told_at == office and day < len(turns) else None


def most_with(house, office, sign, back):
    """The most that late words gain, sign 1, or lose, sign -1, whose changed day is just so many days back."""
    course, practice = house.course, house.practice(office)
    term, again = practice["term"], practice["again"]

    def added(heeded, left, due, right):
        since = back - left
        bound = practice["pays"] if right > due else practice["asks"]
        if heeded and (again is None or since < again) and (bound is None or left <= bound):
            return 0
        return sign * (due - right)

    def step(seat, rule, name):
        due, behind = course.step(seat, rule, name)
        return (due if seat[0] == office else 0), behind

    best = -10 ** 9
    layer = {}
    for seat in course.coming():
        heeded = (term is None or back <= term) and (practice["heeds"] == "all" or seat[0] == office)
        for rule, name in course.turns():
            for other in course.signs:
                if other != name:
                    due, behind = step(seat, rule, name)
                    right, true_behind = step(seat, rule, other)
                    key = (heeded, behind, true_behind)
                    layer[key] = max(layer.get(key, best), added(heeded, back, due, right))
    for left in range(back - 1, 0, -1):
        later = {}
        for (heeded, seat, true_seat), worth in layer.items():
            for rule, name in course.turns():
                due, behind = step(seat, rule, name)
                right, true_behind = step(true_seat, rule, name)
                key = (heeded, behind, true_behind)
                later[key] = max(later.get(key, best), worth + added(heeded, left, due, right))
        layer = later
    return max(layer.values(), default=0)


class GainCase(Case):
    def check_word(self, house, office, events):
        """These events are a late word, and tell nothing that is so already."""
        self.assertIsInstance(events, list)
        found = turns_of(house, office, events)
        self.assertIsNotNone(found, events)
        self.assertEqual(events, word_of(house, office, *found))
        self.assertNotEqual(found[0][found[1]][1], found[2])
        session = Session(house)
        try:
            for event in events:
                session.do(event)
        except TooMany:
            return
        life, code = session.true_days()
        own = sum(house.course.own(office, life, code))
        self.assertEqual(session.file(office).total() - own, gain_of(house, office, events))

    def check(self, house, office, gain, sign):
        """The gain, sign 1, or loss, sign -1, is reached; returns it."""
        self.assertIsInstance(gain, Gain)
        if gain.most is None:
            words = [gain.late_word(times) for times in range(5)]
            self.assertEqual(gain.late_word(), words[0])
            for events in words:
                self.check_word(house, office, events)
            gains = [sign * gain_of(house, office, events) for events in words]
            self.assertEqual(gains, sorted(set(gains)))
            return None
        for times in range(3):
            events = gain.late_word(times)
            # A history without a late word gains nothing.
            if gain.most == 0 and events == []:
                continue
            self.check_word(house, office, events)
            self.assertEqual(sign * gain_of(house, office, events), gain.most)
        return gain.most

    def both(self, house, office="x"):
        gain, loss = greatest_gain(house, office), greatest_loss(house, office)
        return self.check(house, office, gain, 1), self.check(house, office, loss, -1)


class ExamplesTest(GainCase):
    def test_full_practice(self):
        for late in [None, 0, 2]:
            self.assertEqual(self.both(house_of([Flat(AB, (1, 5))], late)), (0, 0))

    def test_a_term(self):
        rule = Flat(AB, (1, 5))
        for term in range(4):
            for late in [None, 0, 1, 2, 3]:
                seen = late is None or late >= term + 1
                self.assertEqual(self.both(house_of([rule], late, term=term)), (4, 4) if seen else (0, 0))

    def test_a_change_that_goes_on(self):
        # The first b gives 7: told late, a second one stays paid or is not paid, once.
        self.assertEqual(self.both(house_of([Once(AB, "b", 7)], None, term=0)), (7, 7))
        self.assertEqual(self.both(house_of([Waiting(AB, "b", 2, 7)], None, term=0)), (21, 21))

    def test_the_last_day_alone(self):
        # Behind a b each next day gives 4 more: what a change of the last day gains, it loses in part on a next one.
        rule = Rule(AB, (((5, 0), (0, 1)), ((9, 0), (4, 1))))
        for late in [None, 1, 2, 3]:
            self.assertEqual(self.both(house_of([rule], late, term=0)), (5, 5))

    def test_no_greatest_one(self):
        # Behind the first b an a gives 2 and a b 3: a change of it shows up to the next b.
        rule = Rule(AB, (((0, 0), (0, 1)), ((2, 1), (3, 1))))
        for late, told in [(None, (None, None)), (0, (0, 0)), (1, (1, 1)), (2, (3, 3)), (3, (5, 5))]:
            self.assertEqual(self.both(house_of([rule], late, term=0)), told)
        self.assertEqual(self.both(house_of([rule], None, term=1)), (None, None))
        # Only gains have no bound: what is to be paid is not, from the third day back on.
        self.assertEqual(self.both(house_of([rule], None, pays=2)), (0, None))
        self.assertEqual(self.both(house_of([rule], None, asks=2)), (None, 0))
        for again in [1, 2, 3]:
            self.assertEqual(self.both(house_of([rule], None, again=again)), (None, None))
            for late in [0, 1, 2, 3]:
                most = (0, 3, 5)[max(0, late - again)]
                self.assertEqual(self.both(house_of([rule], late, again=again)), (most, most))

    def test_pays_and_asks(self):
        rule = Waiting(AB, "b", 1, 7)
        for most in range(4):
            for late in [None, 0, 1, 2, 3]:
                # The day itself and the one behind it.
                days = 2 if late is None else min(2, max(0, late - most))
                self.assertEqual(self.both(house_of([rule], late, pays=most)), (0, 7 * days))
                self.assertEqual(self.both(house_of([rule], late, asks=most)), (7 * days, 0))
                self.assertEqual(self.both(house_of([rule], late, asks=most, pays=most)), (7 * days, 7 * days))

    def test_heeds(self):
        charges = {("x", "b"): "y", ("y", "b"): "x"}
        house = house_of([Flat(AB, (1, 5))], 1, ("x", "y"), charges, heeds="own")
        self.assertEqual(self.both(house, "x"), (0, 0))
        self.assertEqual(self.both(house, "y"), (0, 0))
        house = house.with_bounds(2, 0)
        # The charge goes over, and nobody heeds it: 5 a day is paid by one of both alone.
        self.assertEqual(self.both(house, "x"), (5, 5))
        self.assertEqual(self.both(house, "y"), (5, 5))
        house = house.with_bounds(None, 0)
        self.assertEqual(self.both(house, "x"), (None, None))

    def test_marks_that_make_no_difference(self):
        rule = Once(AB, "b", 7)
        for late in [None, 3]:
            self.assertEqual(self.both(house_of([rule, Flat(AB, (1, 5))], late, amends="ahead")), (0, 0))
            self.assertEqual(self.both(house_of([rule, Flat(AB, (1, 5))], late, stands="come")), (0, 0))

    def test_rules_are_told(self):
        # Under r nothing shows; under s a b is worth 9.
        house = house_of([Flat(AB, (0, 0)), Flat(AB, (0, 9))], 1, term=0)
        self.assertEqual(self.both(house), (9, 9))
        self.assertIn(("amend", "x", 0, "s"), greatest_gain(house, "x").late_word())

    def test_unknown(self):
        house = house_of([Flat(AB, (1, 5))])
        for bad in ["q", "", None]:
            self.refused(Unknown, {"name": bad}, greatest_gain, house, bad)
            self.refused(Unknown, {"name": bad}, greatest_loss, house, bad)

    def test_words_are_new_lists(self):
        house = house_of([Flat(AB, (1, 5))], term=0)
        gain = greatest_gain(house, "x")
        gain.late_word().clear()
        self.assertNotEqual(gain.late_word(), [])
        self.assertEqual(gain.late_word(), gain.late_word())
        self.assertEqual(greatest_gain(house, "x").late_word(), gain.late_word())


class SearchTest(GainCase):
    def made(self, rnd):
        course = made_course(rnd, 2, 2, 3, 2, dues=(0, 0, 1, -1, 2))
        words = ["again", "heeds", "term", "pays", "asks", "amends", "stands"]
        practices = {}
        for office in course.offices:
            weak = rnd.sample(words, rnd.choice([1, 1, 2, 3]))
            practices[office] = Practice(**{word: rnd.choice(WEAK[word]) for word in weak})
        return House(course, practices=practices, late=rnd.choice([None, None, 0, 1, 2, 3]), reach=rnd.choice([None, 0]))

    def test_all_words_of_few_days(self):
        rnd, seen = seeded(411), {"none": 0, "more": 0, "zero": 0}
        for _ in range(90):
            house = self.made(rnd)
            most_days = {1: 6, 2: 5}.get(len(house.course.turns()), 3)
            for office in house.course.offices:
                gain, loss = self.both(house, office)
                for days in range(1, most_days + 1):
                    for events in all_words(house, office, days):
                        reached = gain_of(house, office, events)
                        self.assertTrue(gain is None or reached <= gain, events)
                        self.assertTrue(loss is None or -reached <= loss, events)
                for told in [gain, loss]:
                    seen["none" if told is None else "more" if told else "zero"] += 1
        self.assertGreater(min(seen.values()), 8, seen)

    def test_what_late_bounds_is_reached_by_a_short_word(self):
        """With late a number the greatest one is reached behind a shortest way to a seat."""
        rnd, many = seeded(412), 0
        for _ in range(60):
            house = self.made(rnd)
            if house.late is None or len(house.course.coming()) > 5:
                continue
            for office in house.course.offices:
                for told in [greatest_gain(house, office), greatest_loss(house, office)]:
                    many += told.most > 0
                    self.assertLessEqual(told.late_word().count(("day",)), 4 + house.late)
        self.assertGreater(many, 5)

    def test_longer_words(self):
        """Against the most of words with just so many days, each number by itself."""
        rnd, seen = seeded(414), {"none": 0, "more": 0, "late": 0}
        for _ in range(120):
            course = made_course(rnd, 2, 2, 4, 2, dues=rnd.choice([(0, 0, 1, -1, 2), (0, 0, 0, 0, 1, -1)]))
            if len(course.coming()) > 9:
                continue
            office = rnd.choice(course.offices)
            weak = rnd.sample(["again", "heeds", "term", "pays", "asks"], rnd.choice([1, 1, 2, 3]))
            practice = Practice(**{word: rnd.choice(WEAK[word]) for word in weak})
            house = House(course, practices={office: practice}, late=rnd.choice([None, None, None, 1, 2, 3]))
            for sign, told in [(1, greatest_gain(house, office)), (-1, greatest_loss(house, office))]:
                self.check(house, office, told, sign)
                backs = range(1, 25 if house.late is None else house.late + 1)
                most = [most_with(house, office, sign, back) for back in backs]
                if told.most is not None:
                    self.assertEqual(told.most, max([0, *most]))
                    seen["late" if house.late else "more"] += told.most > 0
                else:
                    self.assertGreater(max(most[12:]), max(most[:12]))
                    seen["none"] += 1
        self.assertGreater(min(seen.values()), 8, seen)

    def test_great_courses(self):
        rnd, done = seeded(413), 0
        while done < 8:
            course = made_course(rnd, 3, 3, 4, 3, dues=(0, 0, 0, 1, -1))
            if not 12 <= len(course.coming()) <= 24:
                continue
            done += 1
            for marks in [{"again": 2}, {"pays": 1, "asks": 3}, {"heeds": "own"}, {"term": 1, "again": 1}]:
                house = House(course, practices={office: Practice(**marks) for office in course.offices}, ways=[])
                for office in course.offices:
                    self.both(house, office)


if __name__ == "__main__":
    unittest.main()
