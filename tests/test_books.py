"""Point 11: books, places and dues."""

import unittest
from itertools import product

from duehouse.books import Book
from duehouse.errors import BadName, BadNumber, BadTable, SameName, Taken, TooMany, Unknown, UnlikeSigns
from duehouse.kinds import Flat, Once, Upto, Waiting
from duehouse.rules import Rule
from tests.support import Case, got, made_book, put, seeded

AB = ("a", "b")


def three_rules():
    return [("r", Flat(AB, (1, 2))), ("s", Upto(AB, "a", 3, 10)), ("t", Once(AB, "b", 100))]


def places_by_words(book, life, code):
    """Places and dues as point 11 tells them."""
    place, places, dues = ("", 0), [("", 0)], []
    for sign, rule in zip(life, code):
        if place[0] == "":
            place = (rule, 0)
        elif place[0] != rule:
            entry = book[place[0], rule][place[1]]
            if entry is not None:
                place = (rule, entry)
        row = book.rule_named(place[0]).rows[place[1]]
        due, state = row[book.signs.index(sign)]
        place = (place[0], state)
        places.append(place)
        dues.append(due)
    return places, dues


class BookTest(Case):
    def test_attributes(self):
        book = Book(three_rules())
        self.assertEqual(book.names, ("r", "s", "t"))
        self.assertEqual(book.signs, AB)
        self.assertEqual(list(book), ["r", "s", "t"])
        self.assertEqual(Book([("abcdefgh", Flat(AB, (1, 1)))]).names, ("abcdefgh",))

    def test_rules_are_counted(self):
        rules = three_rules()
        self.refused(BadNumber, {"name": "rules"}, Book, [])
        self.refused(BadNumber, {"name": "rules"}, Book, [*rules, ("u", Flat(AB, (1, 1)))])
        self.refused(BadNumber, {"name": "rules"}, Book, [("A", Flat(AB, (1, 1)))] * 4)
        self.assertEqual(Book(rules[:1]).names, ("r",))

    def test_pair_by_pair(self):
        flat, once = Flat(AB, (1, 1)), Once(AB, "a", 1)
        other, wide = Flat(("b", "a"), (1, 1)), Rule(AB, (((0, 0), (0, 0)),) * 5)
        wide_other = Rule(("b", "a"), wide.rows)
        for bad in ["", "A", "abcdefghi", None, True, 5, []]:
            self.refused(BadName, {"name": bad}, Book, [("r", flat), (bad, other), ("r", wide)])
            self.refused(BadName, {"name": bad}, Book, [(bad, wide)])
        self.refused(Taken, {"name": "r"}, Book, [("r", flat), ("r", wide_other), ("A", wide)])
        self.refused(UnlikeSigns, {}, Book, [("r", flat), ("s", wide_other), ("s", wide)])
        self.refused(UnlikeSigns, {}, Book, [("r", flat), ("s", once), ("t", other)])
        self.refused(TooMany, {"limit": 4}, Book, [("r", flat), ("s", wide), ("s", other)])
        self.refused(TooMany, {"limit": 4}, Book, [("r", wide), ("r", wide)])
        self.refused(TooMany, {"limit": 4}, Book, [("r", wide), ("A", other)])
        self.assertEqual(len(Book([("r", Rule(AB, (((0, 0), (0, 0)),) * 4))]).rule_named("r")), 4)

    def test_rule_named(self):
        rules = three_rules()
        book = Book(rules)
        for name, rule in rules:
            self.assertEqual(book.rule_named(name), rule)
            self.assertIs(book.rule_named(name).__class__, rule.__class__)
            self.assertEqual(book.rule_named(name).words(), rule.words())
            self.assertEqual(book.rule_named(name).rows, rule.rows)
        for bad in ["u", "", None, True, 0, []]:
            self.refused(Unknown, {"name": bad}, book.rule_named, bad)

    def test_rules_are_copied(self):
        rule = Flat(AB, (1, 2))
        rules = [("r", rule)]
        book = Book(rules)
        rules.append(("s", rule))
        rule.rows = (((7, 0), (7, 0)),)
        book.rule_named("r").rows = (((8, 0), (8, 0)),)
        self.assertEqual(book.names, ("r",))
        self.assertEqual(book.dues(("a", "b"), ("r", "r")), [1, 2])
        self.assertEqual(book.rule_named("r").rows, (((1, 0), (2, 0)),))

    def test_all_kinds_keep_their_words(self):
        for rule in [Waiting(AB, "a", 3, 4), Rule(AB, (((1, 0), (2, 0)),)), -Flat(AB, (1, 2))]:
            self.assertEqual(Book([("r", rule)]).rule_named("r").words(), rule.words())
            self.assertEqual(Book([("r", rule)]).copy().rule_named("r").words(), rule.words())


class TablesTest(Case):
    def test_at_first_all_entries_are_0(self):
        book = Book(three_rules())
        sizes = {"r": 1, "s": 4, "t": 2}
        for old in "rst":
            for new in "rst":
                if old != new:
                    self.assertEqual(book[old, new], (0,) * sizes[old])

    def test_set_and_set_again(self):
        book = Book(three_rules())
        book["s", "t"] = (0, 1, None, 1)
        self.assertEqual(book["s", "t"], (0, 1, None, 1))
        self.assertEqual(book["t", "s"], (0, 0))
        self.assertEqual(book["s", "r"], (0, 0, 0, 0))
        book["s", "t"] = (None, None, None, None)
        book["t", "s"] = (3, None)
        self.assertEqual(book["s", "t"], (None,) * 4)
        self.assertEqual(book["t", "s"], (3, None))

    def test_names(self):
        book = Book(three_rules())
        for bad in ["u", "", None, True, []]:
            self.refused(Unknown, {"name": bad}, got, book, (bad, "v"))
            self.refused(Unknown, {"name": bad}, got, book, ("r", bad))
            self.refused(Unknown, {"name": bad}, put, book, (bad, "v"), (9,))
            self.refused(Unknown, {"name": bad}, put, book, ("r", bad), (9,))
        for name in "rst":
            self.refused(SameName, {"name": name}, got, book, (name, name))
            self.refused(SameName, {"name": name}, put, book, (name, name), (9,))
        self.refused(Unknown, {"name": "u"}, got, book, ("u", "u"))

    def test_bad_tables(self):
        book = Book(three_rules())
        book["t", "s"] = (1, 2)
        for table in [
            (), (0,), (0, 0, 0), (0, 4), (4, 0), (-1, 0), (0, -1), (True, 0), (0, False), ("a", 0), (0, "r"), None, 5,
        ]:
            error = self.refused(BadTable, {"table": table}, put, book, ("t", "s"), table)
            self.assertIs(error.table, table)
        self.assertEqual(book["t", "s"], (1, 2))
        book["t", "s"] = (3, 0)
        book["t", "r"] = (0, 0)
        self.refused(BadTable, {"table": (0, 1)}, put, book, ("t", "r"), (0, 1))

    def test_copies(self):
        book = Book(three_rules())
        book["s", "t"] = (0, 1, None, 1)
        other = book.copy()
        self.assertIsNot(other, book)
        self.assertIs(other.__class__, Book)
        self.assertEqual(other.names, book.names)
        self.assertEqual(other["s", "t"], (0, 1, None, 1))
        other["s", "t"] = (1, 1, 1, 1)
        book["t", "s"] = (2, 2)
        self.assertEqual(book["s", "t"], (0, 1, None, 1))
        self.assertEqual(other["t", "s"], (0, 0))
        table = [1, None]
        book["t", "s"] = table
        table[0] = 3
        self.assertEqual(book["t", "s"], (1, None))


class StepTest(Case):
    def test_a_day(self):
        book = Book(three_rules())
        book["s", "t"] = (0, 1, None, 1)
        self.assertEqual(book.step(("", 0), "s", "a"), (10, ("s", 1)))
        self.assertEqual(book.step(("s", 3), "s", "a"), (0, ("s", 3)))
        self.assertEqual(book.step(("s", 1), "s", "b"), (0, ("s", 1)))
        self.assertEqual(book.step(("s", 0), "t", "b"), (100, ("t", 1)))
        self.assertEqual(book.step(("s", 1), "t", "b"), (0, ("t", 1)))
        self.assertEqual(book.step(("s", 2), "t", "a"), (10, ("s", 3)))
        self.assertEqual(book.step(("s", 3), "r", "b"), (2, ("r", 0)))

    def test_unknown(self):
        book = Book(three_rules())
        for bad in ["u", "", None, True, []]:
            self.refused(Unknown, {"name": bad}, book.step, ("", 0), bad, "z")
            self.refused(Unknown, {"name": bad}, book.step, ("r", 0), "s", bad)

    def test_kept_person_is_looked_at_again(self):
        book = Book(three_rules())
        book["s", "t"] = (None, None, 1, 0)
        life = ("b", "b", "a", "b", "a", "b", "b")
        code = ("s", "t", "t", "t", "t", "t", "t")
        self.assertEqual(
            book.places(life, code),
            [("", 0), ("s", 0), ("s", 0), ("s", 1), ("s", 1), ("s", 2), ("t", 1), ("t", 1)],
        )
        self.assertEqual(book.dues(life, code), [0, 0, 10, 0, 10, 0, 0])
        self.assertEqual(book.places(("a", "b"), ("s", "r")), [("", 0), ("s", 1), ("r", 0)])

    def test_kept_person_and_a_third_rule(self):
        book = Book(three_rules())
        book["s", "t"] = (None, None, None, None)
        book["s", "r"] = (0, 0, 0, 0)
        self.assertEqual(
            book.places(("a", "a", "b", "b"), ("s", "t", "r", "t")),
            [("", 0), ("s", 1), ("s", 2), ("r", 0), ("t", 1)],
        )
        self.assertEqual(book.dues(("a", "a", "b", "b"), ("s", "t", "r", "t")), [10, 10, 2, 100])
        self.assertEqual(book.places(("a", "a", "b"), ("s", "t", "s")), [("", 0), ("s", 1), ("s", 2), ("s", 2)])

    def test_empty_life(self):
        book = Book(three_rules())
        self.assertEqual(book.places((), ()), [("", 0)])
        self.assertEqual(book.dues((), ()), [])

    def test_made_up_books(self):
        rnd = seeded(21)
        for _ in range(100):
            signs = ("a", "b", "c")[: rnd.randint(1, 3)]
            book = made_book(rnd, signs, rnd.randint(1, 3), 4, (-2, 0, 5, 9))
            days = rnd.choice([1, 5, 50, 200])
            life = tuple(rnd.choice(signs) for _ in range(days))
            code = tuple(rnd.choice(book.names) for _ in range(days))
            places, dues = places_by_words(book, life, code)
            self.assertEqual(book.places(life, code), places)
            self.assertEqual(book.dues(life, code), dues)
            self.assertIsInstance(book.places(life, code), list)
            self.assertIsInstance(book.dues(life, code), list)
            place = ("", 0)
            for day in range(days):
                due, place = book.step(place, code[day], life[day])
                self.assertEqual((due, place), (dues[day], places[day + 1]))

    def test_refusals(self):
        book = Book(three_rules())
        for call in (book.places, book.dues):
            self.refused(BadNumber, {"name": "code"}, call, ("z", "a"), ("u",))
            self.refused(BadNumber, {"name": "code"}, call, (), ("r",))
            self.refused(Unknown, {"name": "z"}, call, ("a", "z", "y"), ("u", "r", "r"))
            self.refused(Unknown, {"name": "u"}, call, ("a", "b", "a"), ("r", "u", "v"))
            for bad in ["", None, True, []]:
                self.refused(Unknown, {"name": bad}, call, ("a", bad), ("r", "r"))
                self.refused(Unknown, {"name": bad}, call, ("a", "a"), ("r", bad))


class AmendmentsTest(Case):
    """Point 16: amendments one behind the other."""

    def test_no_less(self):
        low, high = Flat(AB, (1, 2)), Flat(AB, (2, 2))
        once = Once(AB, "b", 3) + high
        book = Book([("r", low), ("s", high), ("t", once)])
        book["t", "r"] = book["t", "s"] = (None, None)
        book["s", "r"] = (None,)
        for code in product("rst", repeat=4):
            for life in product(AB, repeat=4):
                places, dues = book.places(life, code), book.dues(life, code)
                for day in range(1, 4):
                    name, state = places[day]
                    row = book.rule_named(name).rows[state]
                    self.assertGreaterEqual(dues[day], row[AB.index(life[day])][0])

    def test_fresh(self):
        one, two = Waiting(AB, "a", 1, 4), Waiting(AB, "a", 1, 9)
        book = Book([("r", one), ("s", two)])
        book["r", "s"] = book["s", "r"] = (0, 1)
        for code in product("rs", repeat=5):
            for life in product(AB, repeat=5):
                fresh = {"r": one(life), "s": two(life)}
                self.assertEqual(book.dues(life, code), [fresh[code[day]][day] for day in range(5)])


if __name__ == "__main__":
    unittest.main()
