"""Points 7 and 10: what tells rules apart, gaps, and what rules remember. Each witness is reckoned."""

import unittest
from itertools import islice, product

from duehouse.comparing import above, greatest_gap, lives, mixed_up, parting, remembers
from duehouse.errors import BadNumber, UnlikeSigns
from duehouse.kinds import After, Flat, Once, Spell, Upto, Waiting
from duehouse.rules import Rule
from tests.support import Case, all_lives, made_rule, seeded

AB = ("a", "b")


def chain_rule(days, due):
    """A rule that gives the due from the day behind so many days on."""
    rows = [((0, state + 1), (0, state + 1)) for state in range(days)]
    return Rule(AB, (*rows, ((due, days), (due, days))))


def gap(a, b, life):
    return sum(a(life)) - sum(b(life))


def rule_pairs(seed, many, states, dues):
    rnd = seeded(seed)
    for _ in range(many):
        signs = ("a", "b", "c")[: rnd.choice([1, 2, 2, 3])]
        yield made_rule(rnd, signs, rnd.randint(1, states), dues), made_rule(rnd, signs, rnd.randint(1, states), dues)


class PartingTest(Case):
    def check_parting(self, a, b, shortest):
        life = parting(a, b)
        self.assertEqual(life is None, a == b)
        self.assertEqual(life is None, shortest is None)
        if life is not None:
            self.assertIsInstance(life, tuple)
            self.assertNotEqual(a(life)[-1], b(life)[-1])
            self.assertEqual(a(life)[:-1], b(life)[:-1])
            self.assertEqual(len(life), len(shortest))
        self.assertEqual(parting(a, b), life)

    def check_above(self, a, b, shortest):
        life = above(a, b)
        self.assertEqual(life is None, a <= b)
        self.assertEqual(life is None, shortest is None)
        if life is not None:
            self.assertIsInstance(life, tuple)
            self.assertGreater(a(life)[-1], b(life)[-1])
            self.assertEqual(len(life), len(shortest))
        self.assertEqual(above(a, b), life)

    def test_made_up_rules(self):
        for a, b in rule_pairs(11, 250, 3, (0, 1)):
            shortest = {"unlike": None, "above": None}
            for life in islice(all_lives(a.signs, 7), 1, 1500):
                due, other = a(life)[-1], b(life)[-1]
                if due != other and shortest["unlike"] is None:
                    shortest["unlike"] = life
                if due > other and shortest["above"] is None:
                    shortest["above"] = life
            self.check_parting(a, b, shortest["unlike"])
            self.check_above(a, b, shortest["above"])

    def test_equal_though_built_otherwise(self):
        two = Rule(AB, (((5, 1), (0, 0)), ((5, 0), (0, 1))))
        for a, b in [
            (Flat(AB, (5, 0)), two), (Upto(AB, "a", 1, 3), Once(AB, "a", 3)), (two, two.least()),
            (Waiting(AB, "a", 0, 5), two), (Spell(AB, "a", 3, 0), After(AB, "b", "a", 0)),
        ]:
            self.assertIsNone(parting(a, b))
            self.assertIsNone(parting(b, a))
            self.assertIsNone(above(a, b))
            self.assertEqual(greatest_gap(a, b), (0, ()))

    def test_first_and_late_days(self):
        self.assertEqual(parting(Flat(AB, (1, 1)), Flat(AB, (1, 2))), ("b",))
        self.assertIsNone(above(Flat(AB, (1, 1)), Flat(AB, (1, 2))))
        self.assertEqual(above(Flat(AB, (1, 2)), Flat(AB, (1, 1))), ("b",))
        flat = Flat(AB, (0, 0))
        for days in range(16):
            self.assertEqual(len(parting(chain_rule(days, 1), flat)), days + 1)
            self.assertEqual(len(above(chain_rule(days, 1), flat)), days + 1)
            self.assertIsNone(above(flat, chain_rule(days, 1)))
            self.assertIsNone(above(chain_rule(days, -1), flat))
            self.assertIsNone(parting(chain_rule(days, 1), chain_rule(days, 1)))
        self.assertEqual(len(parting(chain_rule(14, 1), chain_rule(15, 1))), 15)
        ring = Rule(AB, tuple(((0, (k + 1) % 16), (0, 0)) for k in range(15)) + (((7, 0), (0, 0)),))
        self.assertEqual(parting(ring, flat), ("a",) * 16)
        other = Rule(AB, tuple(((0, (k + 1) % 15), (0, 0)) for k in range(15)))
        self.assertEqual(above(ring, other), ("a",) * 16)

    def test_many_days_over_two_rules(self):
        long, short = [
            Rule(("a",), tuple(((1 if k == many - 1 else 0, (k + 1) % many),) for k in range(many))) for many in (16, 15)
        ]
        both = Rule(("a",), tuple(((1, (k + 1) % 16),) for k in range(16)))
        self.assertEqual(parting(long, short), ("a",) * 15)
        self.assertEqual(above(long, short), ("a",) * 16)
        self.assertEqual(above(both, long), ("a",))
        late = Rule(("a",), tuple(((0 if k == 15 else 1, (k + 1) % 16),) for k in range(16)))
        never = Rule(("a",), tuple(((1 if k != 14 else 2, (k + 1) % 15),) for k in range(15)))
        self.assertEqual(above(never, late), ("a",) * 15)
        self.assertIsNone(above(late, never))

    def test_unlike_signs(self):
        a = Flat(AB, (1, 1))
        for b in [Flat(("b", "a"), (1, 1)), Flat(("a",), (1,)), Flat(("a", "c"), (1, 1)), Flat(("a", "b", "c"), (1, 1, 1))]:
            for call in (parting, above, greatest_gap):
                self.refused(UnlikeSigns, {}, call, a, b)
                self.refused(UnlikeSigns, {}, call, b, a)


class GapTest(Case):
    def check_ring(self, a, b, found):
        most, pair = found
        self.assertIsNone(most)
        lead, ring = pair
        for track in (pair, lead, ring):
            self.assertIsInstance(track, tuple)
        gaps = [gap(a, b, lead + n * ring) for n in range(40)]
        for before, behind in zip(gaps, gaps[1:]):
            self.assertGreater(behind, before)

    def test_made_up_rules(self):
        met = set()
        for a, b in rule_pairs(12, 500, 3, (0, 0, 1, -1, 2)):
            found = greatest_gap(a, b)
            self.assertEqual(greatest_gap(a, b), found)
            self.assertIsInstance(found, tuple)
            met.add(found[0])
            if found[0] is None:
                self.check_ring(a, b, found)
                continue
            most, life = found
            self.assertIsInstance(life, tuple)
            self.assertEqual(gap(a, b, life), most)
            for other in islice(all_lives(a.signs, 7), 1500):
                self.assertLessEqual(gap(a, b, other), most)
                if len(other) < len(life):
                    self.assertLess(gap(a, b, other), most)
        self.assertTrue({None, 0, 1, 2} <= met)

    def test_wide_rules(self):
        many = 0
        for a, b in rule_pairs(13, 40, 16, (0, -1, 1, -5, 3)):
            found = greatest_gap(a, b)
            if found[0] is None:
                self.check_ring(a, b, found)
                many += 1
            else:
                self.assertEqual(gap(a, b, found[1]), found[0])
        self.assertGreater(many, 20)

    def test_never_above_nothing(self):
        low = Flat(AB, (-1, -3))
        self.assertEqual(greatest_gap(low, Flat(AB, (0, 0))), (0, ()))
        self.assertEqual(greatest_gap(low, low), (0, ()))
        self.assertEqual(greatest_gap(-Once(AB, "a", 5), Once(AB, "b", 5)), (0, ()))

    def test_greatest_ones(self):
        flat = Flat(AB, (0, 0))
        self.assertEqual(greatest_gap(Once(AB, "a", 5), flat), (5, ("a",)))
        self.assertEqual(greatest_gap(Upto(AB, "b", 3, 5), flat), (15, ("b", "b", "b")))
        self.assertEqual(greatest_gap(Once(AB, "a", 5), Once(AB, "b", 5)), (5, ("a",)))
        most, life = greatest_gap(Once(AB, "a", 5) + Once(AB, "b", 4), flat)
        self.assertEqual((most, sorted(life)), (9, ["a", "b"]))
        # First a loss, then a greater gain: the gap is less at first.
        trap = Rule(AB, (((-10, 1), (3, 3)), ((20, 2), (0, 3)), ((0, 2), (0, 2)), ((0, 3), (0, 3))))
        self.assertEqual(greatest_gap(trap, flat), (10, ("a", "a")))

    def test_no_greatest_one(self):
        flat = Flat(AB, (0, 0))
        for a in [Flat(AB, (1, 0)), After(AB, "a", "b", 1), Waiting(AB, "a", 3, 1), Spell(AB, "b", 1, 2)]:
            self.check_ring(a, flat, greatest_gap(a, flat))
        # A ring that loses stands ahead of one that gains, and a ring that gains costs a loss first.
        rows = (((-5, 1), (-9, 0)), ((-1, 2), (-1, 1)), ((-1, 1), (3, 3)), ((-1, 2), (0, 3)))
        self.check_ring(Rule(AB, rows), flat, greatest_gap(Rule(AB, rows), flat))
        dear = Rule(AB, (((-999, 1), (0, 0)), ((-999, 2), (0, 1)), ((1, 2), (0, 2))))
        self.check_ring(dear, flat, greatest_gap(dear, flat))

    def test_long_ring(self):
        long, short = [
            Rule(("a",), tuple(((due if k == 0 else 0, (k + 1) % many),) for k in range(many)))
            for many, due in ((16, 16), (15, 15))
        ]
        most, life = greatest_gap(long, short)
        gaps = [gap(long, short, ("a",) * days) for days in range(240)]
        self.assertEqual((most, len(life)), (max(gaps), gaps.index(max(gaps))))
        gaining = Rule(("a",), tuple(((17 if k == 0 else 0, (k + 1) % 16),) for k in range(16)))
        self.check_ring(gaining, short, greatest_gap(gaining, short))
        self.assertIsNotNone(greatest_gap(short, gaining)[0])


def alike(rule, one, other, most=5):
    """Whether two lives lead to like states, by trying further days."""
    for further in all_lives(rule.signs, most):
        if rule(one + further)[len(one):] != rule(other + further)[len(other):]:
            return False
    return True


def remembers_by_words(rule, most):
    """The least number of days behind which all states that come are alike, whatever the days."""
    leads = {rule.end(life): life for life in reversed(list(all_lives(rule.signs, 6 if len(rule.signs) < 3 else 4)))}
    futures = {}
    for state, lead in leads.items():
        futures[state] = [tuple(rule(lead + life)[len(lead):]) for life in all_lives(rule.signs, 4)]
    for days in range(most + 1):
        apart = False
        for common in product(rule.signs, repeat=days):
            ends = [futures[rule.end(lead + common)] for lead in leads.values()]
            apart = apart or any(end != ends[0] for end in ends)
        if not apart:
            return days
    return None


class RemembersTest(Case):
    def check(self, rule, days):
        self.assertEqual(remembers(rule), days)
        for many in range(21):
            found = mixed_up(rule, many)
            self.assertEqual(mixed_up(rule, many), found)
            self.assertEqual(found is None, days is not None and many >= days)
            if found is not None:
                self.check_witness(rule, many, found)

    def check_witness(self, rule, many, found):
        self.assertIsInstance(found, tuple)
        life, other, common, further = found
        for track in found:
            self.assertIsInstance(track, tuple)
        self.assertEqual(len(common), many)
        self.assertGreater(len(further), 0)
        self.assertNotEqual(rule(life + common + further)[-1], rule(other + common + further)[-1])

    def test_kinds(self):
        self.check(Flat(AB, (1, 2)), 0)
        for wait in range(4):
            self.check(Waiting(AB, "a", wait, 5), wait)
            self.check(Waiting(AB, "a", wait, 0), 0)
        for most in range(1, 4):
            self.check(Spell(AB, "a", most, 5), most)
            self.check(Upto(AB, "a", most, 5), None)
            self.check(Upto(("a",), "a", most, 5), most)
            self.check(Upto(AB, "a", most, 0), 0)
        self.check(Once(AB, "a", 5), None)
        self.check(Once(("a",), "a", 5), 1)
        self.check(After(AB, "a", "b", 5), None)
        self.check(After(AB, "a", "b", 0), 0)
        self.check(After(("a",), "a", "a", 5), 1)

    def test_many_days(self):
        for days in range(1, 16):
            self.check(chain_rule(days, 1), days)
        # Each day goes on by a state or back to the first one.
        for states in range(2, 17):
            rows = [((0, min(k + 1, states - 1)), (0, 0)) for k in range(states - 1)]
            self.check(Rule(AB, (*rows, ((0, states - 1), (1, 0)))), states - 1)

    def test_rules_of_the_last_days(self):
        rnd = seeded(15)
        met = set()
        for _ in range(150):
            signs = AB if rnd.random() < 0.7 else ("a", "b", "c")
            kept = rnd.randint(1, 3) if len(signs) == 2 else rnd.randint(1, 2)
            states = list(product(signs, repeat=kept))
            rnd.shuffle(states)
            due = {(state[-rnd.randint(1, kept):], sign): rnd.choice([0, 0, 1]) for state in states for sign in signs}
            rows = []
            for state in states:
                row = []
                for sign in signs:
                    known = [due[state[at:], sign] for at in range(kept) if (state[at:], sign) in due]
                    row.append((sum(known), states.index((*state[1:], sign))))
                rows.append(tuple(row))
            rule = Rule(signs, tuple(rows))
            days = remembers_by_words(rule, kept)
            met.add(days)
            self.check(rule, days)
        self.assertEqual(met, {0, 1, 2, 3})

    def test_states_that_change_places(self):
        rows = (((1, 1), (0, 2)), ((1, 0), (0, 3)), ((1, 2), (0, 2)), ((0, 2), (0, 2)))
        self.check(Rule(AB, rows), None)
        rows = (((1, 1), (1, 2)), ((0, 3), (1, 1)), ((1, 0), (1, 0)), ((1, 4), (1, 3)), ((1, 1), (1, 1)))
        self.check(Rule(AB, rows), None)

    def test_states_that_do_not_come(self):
        rows = (((1, 0), (0, 0)), ((0, 1), (5, 1)))
        self.check(Rule(AB, rows), 0)

    def test_made_up_rules(self):
        met = set()
        for rule, _ in rule_pairs(14, 150, 3, (0, 1)):
            days = remembers(rule)
            met.add(days)
            self.check(rule, days)
            leads = list(islice(all_lives(rule.signs, 4), 40))
            for many in range(3):
                apart = False
                for common in product(rule.signs, repeat=many):
                    for life in leads[1:]:
                        apart = apart or not alike(rule, leads[0] + common, life + common, 3)
                self.assertEqual(apart, days is None or many < days)
        self.assertTrue({None, 0, 1, 2} <= met)

    def test_days_out_of_range(self):
        for rule in (Flat(AB, (1, 1)), Once(AB, "a", 1)):
            for days in [-1, 21, 100, True, False, None, "a"]:
                self.refused(BadNumber, {"name": "days"}, mixed_up, rule, days)
            mixed_up(rule, 0)
            mixed_up(rule, 20)


class LivesTest(Case):
    def test_all_lives(self):
        for signs in [("a",), ("b", "a"), ("c", "a", "b")]:
            for days in range(7):
                self.assertEqual(list(lives(signs, days)), list(product(signs, repeat=days)))
        self.assertEqual(list(lives(AB, 0)), [()])

    def test_it_is_a_generator(self):
        found = lives(AB, 6)
        self.assertIs(iter(found), found)
        self.assertEqual(next(found), ("a",) * 6)
        self.assertEqual(next(found), ("a",) * 5 + ("b",))

    def test_days_out_of_range(self):
        for days in [-1, 7, 100, True, False, None, "a"]:
            self.refused(BadNumber, {"name": "days"}, lambda: next(lives(AB, days)))


if __name__ == "__main__":
    unittest.main()
