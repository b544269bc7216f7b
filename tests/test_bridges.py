"""Points 14 and 15: amendments, right entries, and tables that keep a promise."""

import unittest
from itertools import product

from duehouse.books import Book
from duehouse.bridges import keeps, keeps_always, right_entries, three_dues, unbridged
from duehouse.errors import BadNumber, SameName, Unknown
from duehouse.kinds import Flat, Once, Spell, Upto, Waiting
from duehouse.promises import Better, Between, Fresh, NoLess, NoMore, Promise
from duehouse.rules import Rule
from tests.support import Case, all_lives, made_book, seeded

AB = ("a", "b")
PROMISES = [Promise(), Fresh(), NoLess(), NoMore(), Between(), Better(), NoLess() & Between(), NoLess() & NoMore()]


def book_of(old, new, table=None):
    book = Book([("r", old), ("s", new)])
    if table is not None:
        book["r", "s"] = table
    return book


def dues_by_words(book, old, new, life, day):
    """The three dues as point 14 tells them."""
    first, second = book.rule_named(old), book.rule_named(new)
    place, rows = (old, first.end(life[:day])), []
    for at in range(day, len(life)):
        due, place = book.step(place, new, life[at])
        rows.append((first(life)[at], second(life)[at], due))
    return rows


def breaking(book, old, new, promise, most):
    """The least number of days of a life with an amendment that breaks the promise on its last day."""
    for life in all_lives(book.signs, most):
        for day in range(len(life)):
            if not promise(*dues_by_words(book, old, new, life, day)[-1]):
                return len(life)
    return None


def right_by_words(book, old, new, promise, most):
    """Point 15 as it is written, over all lives of at most so many days."""
    first, second = book.rule_named(old), book.rule_named(new)
    entries = [*range(len(second)), None]
    wrong = {state: set() for state in range(len(first))}
    for life in all_lives(book.signs, most):
        for day in range(len(life)):
            state = first.end(life[:day])
            olds, news = first(life), second(life)
            for entry in set(entries) - wrong[state]:
                if entry is None:
                    if not promise(olds[day], news[day], olds[day]):
                        wrong[state].add(None)
                    continue
                place = (new, entry)
                for at in range(day, len(life)):
                    due, place = book.step(place, new, life[at])
                    if not promise(olds[at], news[at], due):
                        wrong[state].add(entry)
    return [tuple(entry for entry in entries if entry not in wrong[state]) for state in range(len(first))]


class DuesTest(Case):
    def test_first_later_and_last_days(self):
        book = book_of(Upto(AB, "a", 2, 10), Flat(AB, (1, 5)), (0, None, 0))
        life = ("a", "b", "a", "b")
        self.assertEqual(three_dues(book, "r", "s", life, 0), [(10, 1, 1), (0, 5, 5), (10, 1, 1), (0, 5, 5)])
        self.assertEqual(three_dues(book, "r", "s", life, 1), [(0, 5, 0), (10, 1, 10), (0, 5, 5)])
        self.assertEqual(three_dues(book, "r", "s", life, 2), [(10, 1, 10), (0, 5, 5)])
        self.assertEqual(three_dues(book, "r", "s", life, 3), [(0, 5, 5)])
        self.assertEqual(three_dues(book, "r", "s", life, 4), [])
        self.assertEqual(three_dues(book, "r", "s", (), 0), [])
        self.assertEqual(three_dues(book, "s", "r", ("b", "a"), 1), [(1, 10, 10)])

    def test_keeps(self):
        book = book_of(Upto(AB, "a", 2, 10), Flat(AB, (1, 5)), (0, None, 0))
        life = ("a", "b", "a", "b")
        self.assertFalse(keeps(book, "r", "s", NoLess(), life, 0))
        self.assertTrue(keeps(book, "r", "s", NoLess(), life, 1))
        self.assertFalse(keeps(book, "r", "s", Fresh(), life, 1))
        self.assertTrue(keeps(book, "r", "s", Fresh(), life, 3))
        for promise in PROMISES:
            self.assertIs(keeps(book, "r", "s", promise, life, 4), True)
            self.assertIs(keeps(book, "r", "s", promise, (), 0), True)

    def test_made_up_books(self):
        rnd = seeded(41)
        for _ in range(80):
            book = made_book(rnd, ("a", "b", "c")[: rnd.randint(1, 3)], 3, 4, (0, 1, 5, -3))
            old, new = rnd.sample(book.names, 2)
            days = rnd.choice([1, 4, 200])
            life = tuple(rnd.choice(book.signs) for _ in range(days))
            for day in {0, days // 2, days - 1, days}:
                rows = dues_by_words(book, old, new, life, day)
                self.assertEqual(three_dues(book, old, new, life, day), rows)
                for row in three_dues(book, old, new, life, day):
                    self.assertIsInstance(row, tuple)
                for promise in PROMISES:
                    kept = all(promise(*row) for row in rows)
                    self.assertIs(keeps(book, old, new, promise, life, day), kept)


class RefusedTest(Case):
    def test_names(self):
        book = book_of(Flat(AB, (1, 1)), Flat(AB, (2, 2)))
        promise = Fresh()
        calls = [
            lambda old, new: three_dues(book, old, new, ("z",), 9),
            lambda old, new: keeps(book, old, new, promise, ("z",), 9),
            lambda old, new: right_entries(book, old, new, promise),
            lambda old, new: keeps_always(book, old, new, promise),
            lambda old, new: unbridged(book, old, new, promise),
        ]
        for call in calls:
            for bad in ["q", "", None, True, []]:
                self.refused(Unknown, {"name": bad}, call, bad, "p")
                self.refused(Unknown, {"name": bad}, call, bad, bad)
                self.refused(Unknown, {"name": bad}, call, "r", bad)
            self.refused(SameName, {"name": "r"}, call, "r", "r")
            self.refused(SameName, {"name": "s"}, call, "s", "s")

    def test_signs_and_days(self):
        book = book_of(Flat(AB, (1, 1)), Flat(AB, (2, 2)))
        calls = [
            lambda life, day: three_dues(book, "r", "s", life, day),
            lambda life, day: keeps(book, "r", "s", Promise(), life, day),
        ]
        for call in calls:
            self.refused(Unknown, {"name": "z"}, call, ("a", "z", "y"), -1)
            self.refused(Unknown, {"name": "z"}, call, ("z",), 0)
            for day in [-1, 3, 4, True, False, None, "a"]:
                self.refused(BadNumber, {"name": "day"}, call, ("a", "b"), day)
            self.refused(BadNumber, {"name": "day"}, call, (), 1)


class RightTest(Case):
    def test_states_that_do_not_come(self):
        rows = (((1, 0), (1, 0)), ((50, 1), (50, 1)), ((0, 2), (0, 0)))
        book = book_of(Rule(AB, rows), Once(AB, "a", 1))
        self.assertEqual(right_entries(book, "r", "s", Fresh()), [(), (0, 1, None), (0, 1, None)])
        self.assertEqual(right_entries(book, "r", "s", NoMore()), [(0, 1, None)] * 3)
        book["r", "s"] = (None, 0, 1)
        self.assertIs(keeps_always(book, "r", "s", NoLess()), True)
        self.assertIs(keeps_always(book, "r", "s", Fresh()), False)
        book["r", "s"] = (0, 0, 1)
        self.assertIs(keeps_always(book, "r", "s", NoLess()), False)

    def test_none_as_right_entry(self):
        book = book_of(Flat(AB, (5, 5)), Flat(AB, (1, 1)))
        self.assertEqual(right_entries(book, "r", "s", NoLess()), [(None,)])
        self.assertEqual(right_entries(book, "r", "s", NoMore()), [(0, None)])
        self.assertEqual(right_entries(book, "r", "s", Fresh()), [(0,)])
        self.assertEqual(right_entries(book, "r", "s", Better()), [(None,)])
        self.assertEqual(right_entries(book, "s", "r", NoLess()), [(0, None)])
        self.assertEqual(right_entries(book, "s", "r", Better()), [(0,)])
        self.assertEqual(right_entries(book, "r", "s", Fresh() & NoLess()), [()])

    def test_none_by_the_first_day_alone(self):
        # The day on which the person is kept counts; what comes then is asked of the next state.
        old = Rule(AB, (((1, 1), (1, 1)), ((5, 1), (5, 1))))
        book = book_of(old, Flat(AB, (1, 1)), (None, 0))
        self.assertEqual(right_entries(book, "r", "s", Fresh()), [(0, None), (0,)])
        self.assertTrue(keeps_always(book, "r", "s", Fresh()))
        book["r", "s"] = (None, None)
        self.assertFalse(keeps_always(book, "r", "s", Fresh()))
        self.assertEqual(unbridged(book, "r", "s", Fresh())[0].__class__, tuple)

    def test_usual_rules(self):
        book = book_of(Waiting(AB, "a", 2, 5), Waiting(AB, "a", 1, 5), (0, 1, 1))
        self.assertTrue(keeps_always(book, "r", "s", Fresh()))
        self.assertEqual(right_entries(book, "r", "s", Fresh()), [(0, None), (1,), (1, None)])
        self.assertEqual(right_entries(book, "r", "s", NoLess()), [(0, 1, None), (0, 1, None), (1, None)])
        book = book_of(Spell(AB, "a", 1, 5), Upto(AB, "a", 2, 5))
        self.assertEqual(right_entries(book, "r", "s", NoLess()), [(None,), (None,)])

    def test_the_rest_of_the_table_does_not_matter(self):
        rnd = seeded(42)
        for _ in range(20):
            book = made_book(rnd, AB, 2, 3)
            promise = rnd.choice(PROMISES)
            rights = right_entries(book, "a", "b", promise)
            entries = [*range(len(book.rule_named("b"))), None]
            for table in product(entries, repeat=len(rights)):
                book["a", "b"] = table
                self.assertEqual(right_entries(book, "a", "b", promise), rights)
                kept = all(entry in right for entry, right in zip(table, rights))
                self.assertIs(keeps_always(book, "a", "b", promise), kept)
                self.assertIs(unbridged(book, "a", "b", promise) is None, kept)
                self.assertEqual(book["a", "b"], table)

    def test_made_up_books(self):
        rnd = seeded(43)
        met = set()
        for _ in range(120):
            book = made_book(rnd, AB, rnd.randint(2, 3), 2, (0, 0, 1, 2))
            old, new = rnd.sample(book.names, 2)
            promise = rnd.choice(PROMISES)
            rights = right_entries(book, old, new, promise)
            self.assertIsInstance(rights, list)
            self.assertEqual(rights, right_by_words(book, old, new, promise, 6))
            met.update(rights)
        self.assertTrue({(), (None,), (0,), (0, None), (0, 1, None), (1,)} <= met)


class UnbridgedTest(Case):
    def check(self, book, old, new, promise, most):
        found = unbridged(book, old, new, promise)
        self.assertEqual(unbridged(book, old, new, promise), found)
        self.assertEqual(found is None, keeps_always(book, old, new, promise))
        shortest = breaking(book, old, new, promise, most)
        if found is None:
            self.assertIsNone(shortest)
            return None
        life, day = found
        self.assertIsInstance(found, tuple)
        self.assertIsInstance(life, tuple)
        self.assertIn(day, range(len(life)))
        self.assertFalse(promise(*three_dues(book, old, new, life, day)[-1]))
        self.assertFalse(keeps(book, old, new, promise, life, day))
        if shortest is None:
            self.assertGreater(len(life), most)
        else:
            self.assertEqual(len(life), shortest)
        return found

    def test_made_up_books(self):
        rnd = seeded(44)
        met = set()
        for _ in range(300):
            book = made_book(rnd, AB, rnd.randint(2, 3), 4, (0, 0, 0, 1))
            old, new = rnd.sample(book.names, 2)
            found = self.check(book, old, new, rnd.choice(PROMISES), 6)
            met.add(None if found is None else (len(found[0]), found[1]))
        self.assertIn(None, met)
        self.assertTrue({(1, 0), (2, 0), (2, 1), (3, 0), (3, 1), (3, 2)} <= met)

    def test_long_lives(self):
        old, new = Upto(AB, "a", 3, 0), Upto(AB, "a", 3, 0)
        late = Rule(AB, (((0, 1), (0, 0)), ((0, 2), (0, 1)), ((0, 3), (0, 2)), ((9, 3), (0, 3))))
        book = Book([("r", old), ("s", late), ("t", new)])
        found = unbridged(book, "r", "s", NoMore())
        self.assertEqual(found, (("a",) * 4, 0))
        book["r", "s"] = (None, None, None, 0)
        life, day = unbridged(book, "r", "s", Fresh())
        self.assertFalse(Fresh()(*three_dues(book, "r", "s", life, day)[-1]))
        self.assertEqual(len(life), 4)
        book["r", "s"] = (0, 1, 2, 3)
        self.assertIsNone(unbridged(book, "r", "s", Fresh()))
        self.assertIsNone(unbridged(book, "r", "t", Better()))

    def test_all_promises_kept_by_nothing_broken(self):
        book = book_of(Flat(AB, (5, 5)), Flat(AB, (1, 9)), (None,))
        self.assertIsNone(unbridged(book, "r", "s", Promise()))
        self.assertIsNone(unbridged(book, "r", "s", NoLess()))
        self.assertEqual(unbridged(book, "r", "s", Fresh()), (("a",), 0))
        self.assertEqual(unbridged(book, "r", "s", Better()), (("b",), 0))

    def test_arguments_stay(self):
        book = book_of(Once(AB, "a", 5), Once(AB, "a", 6), (0, None))
        life = ["a", "b"]
        three_dues(book, "r", "s", life, 1)
        unbridged(book, "r", "s", Fresh())
        right_entries(book, "r", "s", Fresh()).clear()
        self.assertEqual((book["r", "s"], life), ((0, None), ["a", "b"]))
        self.assertEqual(len(right_entries(book, "r", "s", Fresh())), 2)


if __name__ == "__main__":
    unittest.main()
