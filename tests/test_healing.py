"""Points 15 and 16: the fewest changes that heal a table, kept states, and amendments in a row."""

import unittest
from itertools import product

from duehouse.books import Book
from duehouse.bridges import keeps_always, right_entries
from duehouse.errors import DueError, NotBridged, SameName, Unbridged, Unknown
from duehouse.healing import healed, least_kept, many_tables, told_apart, wrong_states
from duehouse.kinds import Flat, Once, Spell, Upto, Waiting
from duehouse.promises import Better, Between, Fresh, NoLess, NoMore, Promise
from duehouse.rules import Rule
from tests.support import Case, all_lives, made_book, seeded

AB = ("a", "b")
PROMISES = [Promise(), Fresh(), NoLess(), NoMore(), Between(), Better(), NoLess() & Between()]


def book_of(old, new, table=None):
    book = Book([("r", old), ("s", new)])
    if table is not None:
        book["r", "s"] = table
    return book


def tables_of(book):
    return {(old, new): book[old, new] for old in book for new in book if old != new}


def all_tables(book, old, new):
    """All tables that there are from old to new."""
    entries = [*range(len(book.rule_named(new))), None]
    return product(entries, repeat=len(book.rule_named(old)))


def with_table(book, old, new, table):
    copied = book.copy()
    copied[old, new] = table
    return copied


def unlike_in(one, two):
    return sum(a != b for a, b in zip(one, two))


def shortest_to(rule, state):
    """The least number of days of a life that leads the rule to the state, None if none does."""
    for life in all_lives(rule.signs, len(rule)):
        if rule.end(life) == state:
            return len(life)
    return None


class RefusedTest(Case):
    def test_names(self):
        book = book_of(Flat(AB, (5, 5)), Flat(AB, (1, 1)))
        for call in [wrong_states, healed, least_kept, many_tables, lambda told, old, new, _: told_apart(told, old, new)]:
            for bad in ["q", "", None, True, 0, []]:
                self.refused(Unknown, {"name": bad}, call, book, bad, "p", NoLess())
                self.refused(Unknown, {"name": bad}, call, book, bad, bad, NoLess())
                self.refused(Unknown, {"name": bad}, call, book, "r", bad, NoLess())
            self.refused(SameName, {"name": "r"}, call, book, "r", "r", NoLess())
            self.refused(SameName, {"name": "s"}, call, book, "s", "s", NoLess())


class HealedTest(Case):
    def test_examples(self):
        old, new = Upto(AB, "a", 2, 10), Flat(AB, (0, 4))
        book = book_of(old, new)
        self.assertEqual(wrong_states(book, "r", "s", NoLess()), [0, 1])
        better = healed(book, "r", "s", NoLess())
        self.assertEqual(better["r", "s"], (None, None, 0))
        self.assertEqual(book["r", "s"], (0, 0, 0))
        self.assertEqual(wrong_states(better, "r", "s", NoLess()), [])
        self.assertEqual(least_kept(book, "r", "s", NoLess()), (0, 1))
        self.assertEqual(many_tables(book, "r", "s", NoLess()), 2)
        self.assertEqual(many_tables(book, "r", "s", Promise()), 8)

    def test_the_first_right_entry_is_put_in(self):
        book = book_of(Waiting(AB, "a", 2, 5), Waiting(AB, "a", 1, 5), (1, 0, 0))
        self.assertEqual(right_entries(book, "r", "s", Fresh()), [(0, None), (1,), (1, None)])
        self.assertEqual(wrong_states(book, "r", "s", Fresh()), [0, 1, 2])
        self.assertEqual(healed(book, "r", "s", Fresh())["r", "s"], (0, 1, 1))
        book["r", "s"] = (None, None, None)
        self.assertEqual(wrong_states(book, "r", "s", Fresh()), [1])
        # A right entry stays, also where another right one would come first.
        self.assertEqual(healed(book, "r", "s", Fresh())["r", "s"], (None, 1, None))
        book["r", "s"] = (1, 1, None)
        self.assertEqual(healed(book, "r", "s", NoLess())["r", "s"], (1, 1, None))

    def test_states_that_do_not_come(self):
        rows = (((1, 0), (1, 0)), ((50, 1), (50, 1)), ((0, 2), (0, 0)))
        book = book_of(Rule(AB, rows), Flat(AB, (2, 2)), (0, None, 0))
        self.assertEqual(wrong_states(book, "r", "s", NoMore()), [0])
        self.assertEqual(healed(book, "r", "s", NoMore())["r", "s"], (None, None, 0))
        self.assertEqual(least_kept(book, "r", "s", NoMore()), (0,))
        self.assertEqual(many_tables(book, "r", "s", NoMore()), 4)
        # None has no right entry for state 0; of the others nothing is asked.
        caught = self.refused(NotBridged, {"state": 0}, healed, book, "r", "s", Fresh() & NoMore())
        self.assertEqual(caught.__cause__.life, ())

    def test_only_none_is_right(self):
        book = book_of(Flat(AB, (5, 5)), Flat(AB, (1, 1)))
        for promise in [NoLess(), Better()]:
            self.assertEqual(least_kept(book, "r", "s", promise), (0,))
            self.assertEqual(many_tables(book, "r", "s", promise), 1)
            self.assertEqual(healed(book, "r", "s", promise)["r", "s"], (None,))
        self.assertEqual(least_kept(book, "r", "s", NoMore()), ())
        self.assertEqual(least_kept(book, "r", "s", Fresh()), ())

    def test_no_right_entry(self):
        book = book_of(Flat(AB, (5, 5)), Flat(AB, (1, 1)))
        promise = Fresh() & NoLess()
        self.assertEqual(wrong_states(book, "r", "s", promise), [0])
        self.assertEqual(many_tables(book, "r", "s", promise), 0)
        for call in [healed, least_kept]:
            caught = self.refused(NotBridged, {"state": 0}, call, book, "r", "s", promise)
            self.assertIs(caught.__cause__.__class__, Unbridged)
            self.assertEqual(caught.__cause__.life, ())
        self.assertEqual(book["r", "s"], (0,))

    def test_the_least_state_without_an_entry(self):
        # The states come in the order 0, 2, 3, 1: the least one without an entry needs the longest life.
        rows = (((1, 2), (1, 0)), ((7, 1), (1, 0)), ((1, 3), (1, 0)), ((7, 1), (1, 0)))
        book = book_of(Rule(AB, rows), Flat(AB, (1, 1)), (0, 0, 0, 0))
        promise = Fresh() & NoLess()
        self.assertEqual(right_entries(book, "r", "s", promise), [(None,), (), (None,), ()])
        for call in [healed, least_kept]:
            caught = self.refused(NotBridged, {"state": 1}, call, book, "r", "s", promise)
            self.assertEqual(caught.__cause__.life, ("a", "a", "a"))
            self.assertIsInstance(caught.__cause__, DueError)
        self.assertEqual(many_tables(book, "r", "s", promise), 0)
        self.assertEqual(wrong_states(book, "r", "s", promise), [0, 1, 2, 3])

    def test_all_tables_tried(self):
        rnd = seeded(71)
        met = set()
        for _ in range(120):
            book = made_book(rnd, AB, rnd.randint(2, 3), 3, rnd.choice([(0, 1), (0, 0, 1, 2), (0, 0, 0, 1)]))
            old, new = rnd.sample(book.names, 2)
            promise = rnd.choice(PROMISES)
            told, table = tables_of(book), book[old, new]
            keeping = [
                other for other in all_tables(book, old, new)
                if keeps_always(with_table(book, old, new, other), old, new, promise)
            ]
            self.assertEqual(many_tables(book, old, new, promise), len(keeping))
            wrong = wrong_states(book, old, new, promise)
            self.assertIsInstance(wrong, list)
            if not keeping:
                rights = right_entries(book, old, new, promise)
                for call in [healed, least_kept]:
                    caught = self.refused(NotBridged, {"state": rights.index(())}, call, book, old, new, promise)
                    life = caught.__cause__.life
                    self.assertIsInstance(life, tuple)
                    self.assertEqual(book.rule_named(old).end(life), rights.index(()))
                    self.assertEqual(len(life), shortest_to(book.rule_named(old), rights.index(())))
                met.add("none")
                continue
            made = healed(book, old, new, promise)
            self.assertTrue(keeps_always(made, old, new, promise))
            fewest = min(unlike_in(table, other) for other in keeping)
            self.assertEqual(unlike_in(table, made[old, new]), fewest)
            self.assertEqual(wrong, [at for at, entry in enumerate(made[old, new]) if entry != table[at]])
            self.assertEqual({**tables_of(made), (old, new): table}, told)
            kept = [state for state in range(len(table)) if all(other[state] is None for other in keeping)]
            self.assertEqual(least_kept(book, old, new, promise), tuple(kept))
            self.assertEqual(min(other.count(None) for other in keeping), len(kept))
            met.update([fewest, f"kept {len(kept)}"])
            self.assertEqual(tables_of(book), told)
        self.assertTrue({"none", 0, 1, 2, 3, "kept 0", "kept 1", "kept 2"} <= met)

    def test_books_returned_earlier_stay(self):
        book = Book([("r", Upto(AB, "a", 2, 10)), ("s", Flat(AB, (0, 4))), ("t", Once(AB, "b", 3))])
        book["t", "r"] = (2, None)
        first = healed(book, "r", "s", NoLess())
        second = healed(first, "r", "t", NoLess())
        third = healed(second, "r", "s", Fresh())
        self.assertEqual(first["r", "s"], (None, None, 0))
        self.assertEqual(first["r", "t"], (0, 0, 0))
        self.assertEqual((second["r", "s"], second["r", "t"]), ((None, None, 0), (None, None, 0)))
        self.assertEqual((third["r", "s"], third["r", "t"]), ((0, 0, 0), (None, None, 0)))
        self.assertEqual((third["t", "r"], third["s", "r"]), ((2, None), (0,)))
        self.assertEqual([rule for rule in third], ["r", "s", "t"])
        third["r", "s"] = (None, None, None)
        self.assertEqual((book["r", "s"], first["r", "s"]), ((0, 0, 0), (None, None, 0)))
        same = healed(first, "r", "s", NoLess())
        self.assertIsNot(same, first)
        same["r", "s"] = (0, 0, 0)
        self.assertEqual(first["r", "s"], (None, None, 0))


class ToldApartTest(Case):
    def check(self, book, old, new):
        found = told_apart(book, old, new)
        self.assertEqual(told_apart(book, old, new), found)
        free = [entry for entry in range(len(book.rule_named(new)))]
        without_none = product(free, repeat=len(book.rule_named(old)))
        fresh = any(keeps_always(with_table(book, old, new, table), old, new, Fresh()) for table in without_none)
        self.assertIs(found is None, fresh)
        if found is None:
            return None
        self.assertIsInstance(found, tuple)
        life, other, further = found
        first, second = book.rule_named(old), book.rule_named(new)
        for track in found:
            self.assertIsInstance(track, tuple)
        self.assertEqual(first.end(life), first.end(other))
        self.assertNotEqual(second(life + further)[-1], second(other + further)[-1])
        self.assertGreater(len(further), 0)
        return found

    def test_shown_on_the_last_day(self):
        # The new rule knows what the old one has forgotten, but shows it only after some days.
        late = Rule(AB, (((0, 1), (0, 2)), ((0, 1), (0, 1)), ((0, 3), (0, 3)), ((7, 1), (0, 1))))
        life, other, further = self.check(book_of(Flat(AB, (1, 1)), late), "r", "s")
        self.assertGreaterEqual(len(further), 2)
        self.assertNotEqual(life, other)

    def test_none(self):
        for old, new in [
            (Flat(AB, (1, 1)), Flat(AB, (5, -5))),
            (Upto(AB, "a", 3, 1), Upto(AB, "a", 2, 7)),
            (Waiting(AB, "a", 3, 1), Spell(AB, "a", 2, 7)),
            (Upto(AB, "a", 1, 1), Once(AB, "a", 7)),
        ]:
            self.assertIsNone(self.check(book_of(old, new), "r", "s"))
        self.assertIsNotNone(self.check(book_of(Upto(AB, "a", 2, 7), Upto(AB, "a", 3, 1)), "r", "s"))
        self.assertIsNotNone(self.check(book_of(Once(AB, "b", 1), Once(AB, "a", 1)), "r", "s"))

    def test_states_that_do_not_come_and_like_states(self):
        # Lives lead new to its states 0 and 1, which are like; state 2 does not come.
        new = Rule(AB, (((1, 1), (2, 0)), ((1, 0), (2, 1)), ((9, 0), (9, 0))))
        self.assertIsNone(self.check(book_of(Flat(AB, (0, 0)), new), "r", "s"))

    def test_made_up_books(self):
        rnd = seeded(72)
        met = set()
        for _ in range(150):
            book = made_book(rnd, ("a", "b", "c")[: rnd.randint(1, 3)], 2, 4, (0, 0, 1))
            found = self.check(book, *rnd.sample(book.names, 2))
            met.add(None if found is None else len(found[2]))
        self.assertTrue({None, 1, 2} <= met)


def all_states_come(rule):
    return len({rule.end(life) for life in all_lives(rule.signs, len(rule) - 1)}) == len(rule)


def healed_throughout(book, promise):
    """The book with all tables healed, None if some table cannot be."""
    try:
        for old in book.names:
            for new in book.names:
                if old != new:
                    book = healed(book, old, new, promise)
    except NotBridged:
        return None
    return book


class AmendmentsInARowTest(Case):
    def made_histories(self, rnd, book):
        for days in [1, 2, 9, 40, 200]:
            life = tuple(rnd.choice(book.signs) for _ in range(days))
            yield life, tuple(rnd.choice(book.names) for _ in range(days))

    def test_no_less(self):
        rnd = seeded(73)
        met, checked = 0, 0
        while met < 25:
            book = made_book(rnd, AB, 3, 3, (0, 1, 2))
            if not all(all_states_come(book.rule_named(name)) for name in book):
                continue
            book = healed_throughout(book, NoLess())
            if book is None:
                continue
            met += 1
            for life, code in self.made_histories(rnd, book):
                dues, places = book.dues(life, code), book.places(life, code)
                for day in range(1, len(life)):
                    name, state = places[day]
                    row = book.rule_named(name).rows[state]
                    least = row[book.signs.index(life[day])][0]
                    self.assertGreaterEqual(dues[day], least)
                    checked += code[day] != name
        self.assertGreater(checked, 500)

    def test_less_with_a_wrong_table(self):
        book = book_of(Flat(AB, (5, 5)), Flat(AB, (1, 1)))
        self.assertEqual(book.dues(("a", "a"), ("r", "s")), [5, 1])
        book = healed(book, "r", "s", NoLess())
        self.assertEqual(book.dues(("a", "a"), ("r", "s")), [5, 5])

    def test_fresh(self):
        rnd = seeded(74)
        met, moved = 0, 0
        # All of these can be told from what the longest of them remembers.
        kinds = [
            lambda: Flat(AB, (rnd.randint(-3, 3), rnd.randint(-3, 3))),
            lambda: Spell(AB, "a", rnd.randint(1, 3), rnd.randint(1, 5)),
            lambda: Waiting(AB, "a", rnd.randint(1, 3), rnd.randint(1, 5)),
            lambda: Once(AB, "b", rnd.randint(1, 5)),
            lambda: Upto(AB, "b", rnd.randint(1, 3), rnd.randint(1, 5)),
        ]
        while met < 25:
            rules = [(name, rnd.choice(kinds)()) for name in "rst"]
            if any(len(rule) != len(rule.least()) for _, rule in rules):
                continue
            book = healed_throughout(Book(rules), Fresh())
            if book is None:
                continue
            met += 1
            for life, code in self.made_histories(rnd, book):
                alone = {name: rule(life) for name, rule in rules}
                self.assertEqual(book.dues(life, code), [alone[name][day] for day, name in enumerate(code)])
                moved += len(set(code)) > 1
        self.assertGreater(moved, 50)


if __name__ == "__main__":
    unittest.main()
