"""Point 9: the usual rules, reckoned day by day as the point tells them."""

import unittest

from duehouse.errors import BadName, BadNumber, Taken, Unknown
from duehouse.kinds import After, Flat, Once, Paid, Spell, Upto, Waiting
from duehouse.rules import Rule
from tests.support import Case, all_lives

AB = ("a", "b")
ABC = ("a", "b", "c")


def run_ahead(life, day, sign):
    """How many days just ahead of this day have the sign."""
    run = 0
    while run < day and life[day - 1 - run] == sign:
        run += 1
    return run


class KindsTest(Case):
    def check(self, rule, due_of, state_of):
        """The dues and states of all short lives are as told by the two functions of (life, day)."""
        for life in all_lives(rule.signs, 6 if len(rule.signs) < 3 else 5):
            self.assertEqual(rule(life), [due_of(life, day) for day in range(len(life))])
            self.assertEqual(rule.end(life), state_of(life, len(life)))

    def test_flat(self):
        rule = Flat(ABC, (5, -3, 0))
        amounts = dict(zip(ABC, (5, -3, 0)))
        self.check(rule, lambda life, day: amounts[life[day]], lambda life, day: 0)
        self.assertEqual(rule.rows, (((5, 0), (-3, 0), (0, 0)),))
        self.assertEqual(rule.amounts, (5, -3, 0))
        self.assertEqual(Flat(("a",), (-999,)).rows, (((-999, 0),),))
        self.assertEqual(Flat(AB, (999, 999)).rows, (((999, 0), (999, 0)),))

    def test_waiting(self):
        for wait in range(4):
            for sign in ABC:
                self.check(
                    Waiting(ABC, sign, wait, 7),
                    lambda life, day: 7 if life[day] == sign and run_ahead(life, day, sign) >= wait else 0,
                    lambda life, day: min(wait, run_ahead(life, day, sign)),
                )
                self.assertEqual(len(Waiting(ABC, sign, wait, 7)), wait + 1)

    def test_upto(self):
        for most in range(1, 4):
            for sign in ABC:
                self.check(
                    Upto(ABC, sign, most, -7),
                    lambda life, day: -7 if life[day] == sign and life[:day].count(sign) < most else 0,
                    lambda life, day: min(most, life[:day].count(sign)),
                )
                self.assertEqual(len(Upto(ABC, sign, most, 7)), most + 1)

    def test_spell(self):
        for most in range(1, 4):
            for sign in ABC:
                self.check(
                    Spell(ABC, sign, most, 7),
                    lambda life, day: 7 if life[day] == sign and run_ahead(life, day, sign) < most else 0,
                    lambda life, day: min(most, run_ahead(life, day, sign)),
                )
                self.assertEqual(len(Spell(ABC, sign, most, 7)), most + 1)

    def test_once(self):
        for sign in ABC:
            self.check(
                Once(ABC, sign, 7),
                lambda life, day: 7 if life[day] == sign and sign not in life[:day] else 0,
                lambda life, day: 1 if sign in life[:day] else 0,
            )
            self.assertEqual(len(Once(ABC, sign, 7)), 2)

    def test_after(self):
        for sign in ABC:
            for other in ABC:
                self.check(
                    After(ABC, sign, other, 7),
                    lambda life, day: 7 if life[day] == other and sign in life[:day] else 0,
                    lambda life, day: 1 if sign in life[:day] else 0,
                )
                self.assertEqual(len(After(ABC, sign, other, 7)), 2)

    def test_one_sign(self):
        one = ("a",)
        self.assertEqual(Waiting(one, "a", 3, 5)(("a",) * 6), [0, 0, 0, 5, 5, 5])
        self.assertEqual(Upto(one, "a", 3, 5)(("a",) * 6), [5, 5, 5, 0, 0, 0])
        self.assertEqual(Spell(one, "a", 1, 5)(("a",) * 3), [5, 0, 0])
        self.assertEqual(Once(one, "a", 5)(("a",) * 3), [5, 0, 0])
        self.assertEqual(After(one, "a", "a", 5)(("a",) * 3), [0, 5, 5])


class FieldsTest(Case):
    def test_classes(self):
        self.assertEqual(Flat.__bases__, (Rule,))
        for kind in (Waiting, Upto, Spell, Once, After):
            self.assertEqual(kind.__bases__, (Rule, Paid))

    def test_paid(self):
        paid = Paid("a", 5)
        self.assertEqual((paid.sign, paid.amount), ("a", 5))
        named = Paid(sign="b", amount=-1)
        self.assertEqual((named.sign, named.amount), ("b", -1))

    def test_fields(self):
        told = [
            (Flat, {"signs": AB, "amounts": (1, 2)}),
            (Waiting, {"signs": AB, "sign": "b", "wait": 2, "amount": 5}),
            (Upto, {"signs": AB, "sign": "b", "most": 2, "amount": 5}),
            (Spell, {"signs": AB, "sign": "b", "most": 3, "amount": 5}),
            (Once, {"signs": AB, "sign": "b", "amount": -5}),
            (After, {"signs": AB, "sign": "b", "other": "a", "amount": 5}),
        ]
        for kind, fields in told:
            for rule in (kind(**fields), kind(*fields.values())):
                for name, value in fields.items():
                    self.assertEqual(getattr(rule, name), value)
                self.assertIsInstance(rule, Rule)
                self.assertEqual(rule.signs, AB)

    def test_words(self):
        self.assertEqual(Flat(AB, (1, -2)).words(), "flat 1 -2")
        self.assertEqual(Flat(("a",), (0,)).words(), "flat 0")
        self.assertEqual(Waiting(AB, "b", 3, 10).words(), "waiting b 3 10")
        self.assertEqual(Waiting(AB, "b", 0, -999).words(), "waiting b 0 -999")
        self.assertEqual(Upto(AB, "b", 3, 10).words(), "upto b 3 10")
        self.assertEqual(Spell(AB, "a", 1, 999).words(), "spell a 1 999")
        self.assertEqual(Once(AB, "a", -7).words(), "once a -7")
        self.assertEqual(After(AB, "a", "b", 7).words(), "after a b 7")

    def test_results_are_plain(self):
        for rule in [Flat(AB, (1, 2)), Waiting(AB, "a", 1, 1), Upto(AB, "a", 1, 1), Once(AB, "a", 1)]:
            for result in (-rule, rule + rule, rule - rule, rule.least()):
                self.assertIs(result.__class__, Rule)
                self.assertEqual(result.words()[:5], "rows ")

    def test_words_are_of_each_class_itself(self):
        for kind in (Flat, Waiting, Upto, Spell, Once, After):
            self.assertIn("words", vars(kind))


class RefusedTest(Case):
    kinds = [
        (Flat, ((5, 5),), "amounts"),
        (Waiting, ("a", 1, 5), "amount"),
        (Upto, ("a", 1, 5), "amount"),
        (Spell, ("a", 1, 5), "amount"),
        (Once, ("a", 5), "amount"),
        (After, ("a", "b", 5), "amount"),
    ]

    def test_signs_come_first(self):
        wrong = {
            Flat: (None,), Waiting: ("x", 9, None), Upto: ("x", 9, None),
            Spell: ("x", 9, None), Once: ("x", None), After: ("x", "y", None),
        }
        for kind, told in wrong.items():
            with self.subTest(kind):
                self.refused(BadNumber, {"name": "signs"}, kind, (), *told)
                self.refused(BadNumber, {"name": "signs"}, kind, ("a", "b", "c", "d"), *told)
                self.refused(BadName, {"name": "A"}, kind, ("a", "A", "a"), *told)
                self.refused(BadName, {"name": True}, kind, (True,), *told)
                self.refused(Taken, {"name": "a"}, kind, ("a", "a", "A"), *told)

    def test_unknown_comes_next(self):
        for kind, told in [(Waiting, (9, None)), (Upto, (9, None)), (Spell, (9, None)), (Once, (None,))]:
            for bad in ["c", "", None, True]:
                self.refused(Unknown, {"name": bad}, kind, AB, bad, *told)
        for bad in ["c", "", None, True]:
            self.refused(Unknown, {"name": bad}, After, AB, bad, "d", None)
            self.refused(Unknown, {"name": bad}, After, AB, "a", bad, None)

    def test_counts(self):
        for bad in [-1, 4, True, False, None, "a", 1.0]:
            self.refused(BadNumber, {"name": "wait"}, Waiting, AB, "a", bad, None)
        for bad in [0, -1, 4, True, None, "a", 1.0]:
            self.refused(BadNumber, {"name": "most"}, Upto, AB, "a", bad, None)
            self.refused(BadNumber, {"name": "most"}, Spell, AB, "a", bad, None)

    def test_amounts(self):
        for kind, told, name in self.kinds[1:]:
            for bad in [1000, -1000, True, False, None, "a", 1.0]:
                self.refused(BadNumber, {"name": name}, kind, AB, *told[:-1], bad)
            for good in [999, -999, 0]:
                self.assertEqual(kind(AB, *told[:-1], good).amount, good)
        for bad in [(), (1,), (1, 2, 3), (1, 1000), (-1000, 1), (True, 1), (1, False), (None, 1), ("a", 1)]:
            self.refused(BadNumber, {"name": "amounts"}, Flat, AB, bad)


if __name__ == "__main__":
    unittest.main()
