"""Points 7 and 8, and the WORDS of plain rules of point 41."""

import unittest

from duehouse.errors import BadName, BadNumber, BadRow, Taken, TooMany, Unknown, UnlikeSigns
from duehouse.kinds import Flat, Once, Spell, Upto, Waiting
from duehouse.rules import Rule
from tests.support import Case, all_lives, got, made_rule, seeded

AB = ("a", "b")


def ring_rule(states, due=1, signs=AB):
    """The first sign goes on to the next of so many states, the last one leads to state 0 with a due."""
    rows = []
    for state in range(states):
        last = state + 1 == states
        rows.append(tuple((due if last and k == 0 else 0, (state + 1) % states if k == 0 else state)
                          for k in range(len(signs))))
    return Rule(signs, tuple(rows))


def dues_by_words(rule, life):
    """The dues of a life as point 7 tells them."""
    state, dues = 0, []
    for sign in life:
        due, state = rule.rows[state][rule.signs.index(sign)]
        dues.append(due)
    return dues, state


class RuleTest(Case):
    def test_signs_are_checked_first(self):
        for signs in [(), ("a", "b", "c", "d"), ("A", "a", "b", "b")]:
            self.refused(BadNumber, {"name": "signs"}, Rule, signs, ())
        for bad in ["", "abcdefghi", "A", "a b", "1", 5, None, True, b"a", ("a",)]:
            self.refused(BadName, {"name": bad}, Rule, ("a", bad), ())
            self.refused(BadName, {"name": bad}, Rule, (bad, "a", "a"), ())
        self.refused(Taken, {"name": "a"}, Rule, ("a", "a", "A"), ())
        self.refused(BadName, {"name": "A"}, Rule, ("a", "A", "a"), ())
        self.refused(Taken, {"name": "b"}, Rule, ("a", "b", "b"), ())
        self.refused(BadNumber, {"name": "signs"}, Rule, (), ((),))

    def test_names_at_the_edge(self):
        rule = Rule(("a", "abcdefgh", "z"), (((0, 0), (1, 0), (2, 0)),))
        self.assertEqual(rule(("abcdefgh", "z", "a")), [1, 2, 0])
        self.assertEqual(Rule(("a",), (((0, 0),),)).signs, ("a",))

    def test_rows_are_counted(self):
        self.refused(BadNumber, {"name": "rows"}, Rule, ("a",), ())
        self.refused(BadNumber, {"name": "rows"}, Rule, ("a",), (((0, 99),),) * 17)
        self.assertEqual(len(Rule(("a",), (((0, 0),),) * 16)), 16)
        self.assertEqual(len(Rule(("a",), (((0, 0),),))), 1)

    def test_bad_rows(self):
        good = ((0, 0), (0, 1))
        bad = [
            (), ((0, 0),), ((0, 0), (0, 0), (0, 0)),
            ((1000, 0), (0, 0)), ((-1000, 0), (0, 0)), ((0, 0), (1000, 0)),
            ((0, 2), (0, 0)), ((0, -1), (0, 0)), ((0, 0), (0, 2)),
            ((True, 0), (0, 0)), ((0, True), (0, 0)), ((0, False), (0, 0)), ((False, 0), (0, 0)),
            ((None, 0), (0, 0)), ((0, None), (0, 0)), (("a", 0), (0, 0)),
            ((0,), (0, 0)), ((0, 0, 0), (0, 0)), (0, (0, 0)), ("00", (0, 0)), None, 5, "ab",
        ]
        for row in bad:
            with self.subTest(row):
                self.refused(BadRow, {"state": 0}, Rule, AB, (row, good))
                self.refused(BadRow, {"state": 1}, Rule, AB, (good, row))
                self.refused(BadRow, {"state": 0}, Rule, AB, (row, row))
        self.refused(BadRow, {"state": 15}, Rule, AB, (good,) * 15 + (bad[0],))

    def test_dues_at_the_edge(self):
        rule = Rule(AB, (((999, 1), (-999, 0)), ((-999, 0), (999, 1))))
        self.assertEqual(rule(("a", "b", "a", "b")), [999, 999, -999, -999])
        self.assertEqual(rule.total(("a", "b")), 1998)

    def test_attributes(self):
        rows = (((5, 1), (0, 0)), ((0, 1), (-3, 0)))
        rule = Rule(AB, rows)
        self.assertEqual(rule.signs, AB)
        self.assertEqual(rule.rows, rows)
        self.assertIsInstance(rule.signs, tuple)
        self.assertIsInstance(rule.rows, tuple)

    def test_lives(self):
        rule = Rule(AB, (((5, 1), (0, 0)), ((0, 1), (-3, 0))))
        self.assertEqual(rule(()), [])
        self.assertEqual(rule.end(()), 0)
        self.assertEqual(rule.total(()), 0)
        self.assertEqual(rule(("a", "a", "b", "b", "a")), [5, 0, -3, 0, 5])
        self.assertEqual(rule.end(("a", "a")), 1)
        self.assertEqual(rule.total(("a", "a", "b", "b", "a")), 7)
        rnd = seeded(1)
        for _ in range(30):
            rule = made_rule(rnd, ("a", "b", "c"), rnd.randint(1, 16), (-4, 0, 7))
            life = tuple(rnd.choice("abc") for _ in range(rnd.choice([3, 30, 200])))
            dues, state = dues_by_words(rule, life)
            self.assertIsInstance(rule(life), list)
            self.assertEqual((rule(life), rule.end(life), rule.total(life)), (dues, state, sum(dues)))

    def test_returned_list_is_new(self):
        rule = Rule(AB, (((5, 0), (0, 0)),))
        rule(("a",)).append(9)
        self.assertEqual(rule(("a",)), [5])

    def test_unknown_signs(self):
        rule = Rule(AB, (((5, 0), (0, 0)),))
        for call in (rule, rule.end, rule.total):
            for bad in ["c", "", "A", 0, True, None, []]:
                self.refused(Unknown, {"name": bad}, call, ("a", bad, "d"))

    def test_items(self):
        rows = (((5, 1), (0, 0)), ((0, 1), (-3, 0)))
        rule = Rule(AB, rows)
        self.assertEqual((rule[0], rule[1]), rows)
        self.assertEqual(list(rule), list(rows))
        self.assertEqual(len(rule), 2)
        for state in [2, -1, True, False, None, "a", 1.0, 16]:
            self.refused(BadNumber, {"name": "state"}, got, rule, state)


class EqualTest(Case):
    def test_other_number_and_order_of_states(self):
        one = Rule(AB, (((5, 0), (0, 0)),))
        two = Rule(AB, (((5, 1), (0, 0)), ((5, 0), (0, 1))))
        extra = Rule(AB, (((5, 0), (0, 0)), ((7, 1), (7, 0))))
        for left in (one, two, extra):
            for right in (one, two, extra):
                self.assertTrue(left == right)
                self.assertFalse(left != right)
        swapped = Rule(AB, (((0, 2), (1, 0)), ((9, 1), (9, 1)), ((4, 2), (1, 0))))
        other = Rule(AB, (((0, 1), (1, 0)), ((4, 1), (1, 0))))
        self.assertEqual(swapped, other)
        self.assertEqual(Flat(AB, (3, 0)), Waiting(AB, "a", 0, 3))
        self.assertNotEqual(Upto(AB, "a", 1, 3), Spell(AB, "a", 1, 3))
        self.assertEqual(Upto(AB, "a", 1, 3), Once(AB, "a", 3))

    def test_late_difference(self):
        for days in range(1, 17):
            ring = ring_rule(days)
            self.assertEqual(ring == Flat(AB, (0, 0)), False)
            self.assertEqual(ring, ring_rule(days))
        self.assertNotEqual(ring_rule(15), ring_rule(16))

    def test_unlike_signs_are_not_equal(self):
        rule = Rule(AB, (((1, 0), (1, 0)),))
        for signs in [("b", "a"), ("a",), ("a", "c"), ("a", "b", "c")]:
            other = Rule(signs, (tuple((1, 0) for _ in signs),))
            self.assertFalse(rule == other)
            self.assertTrue(rule != other)
        self.assertFalse(rule == 5)
        self.assertFalse(rule == rule.rows)

    def test_by_all_lives(self):
        rnd = seeded(2)
        met = set()
        for _ in range(300):
            one, two = made_rule(rnd, AB, rnd.randint(1, 3)), made_rule(rnd, AB, rnd.randint(1, 3))
            lives = list(all_lives(AB, 6))
            same = all(one(life) == two(life) for life in lives)
            below = all(x <= y for life in lives for x, y in zip(one(life), two(life)))
            self.assertEqual(one == two, same)
            self.assertEqual(one <= two, below)
            self.assertEqual(two >= one, below)
            met.add((same, below))
        self.assertEqual(met, {(True, True), (False, True), (False, False)})


class OrderTest(Case):
    def test_examples(self):
        low, high = Flat(AB, (1, -2)), Flat(AB, (1, -1))
        self.assertTrue(low <= high)
        self.assertFalse(high <= low)
        self.assertTrue(low <= low)
        self.assertTrue(Once(AB, "a", 5) <= Flat(AB, (5, 0)))
        self.assertFalse(Once(AB, "a", 5) <= Flat(AB, (4, 9)))
        self.assertFalse(Flat(AB, (0, 0)) <= -ring_rule(16))
        self.assertTrue(-ring_rule(16) <= Flat(AB, (0, 0)))

    def test_unlike_signs(self):
        rule = Flat(AB, (1, 1))
        for signs in [("b", "a"), ("a",), ("a", "c"), ("a", "b", "c")]:
            other = Rule(signs, (tuple((999, 0) for _ in signs),) * 16)
            self.refused(UnlikeSigns, {}, lambda: rule <= other)
            self.refused(UnlikeSigns, {}, lambda: rule + other)
            self.refused(UnlikeSigns, {}, lambda: rule - other)
            self.refused(UnlikeSigns, {}, lambda: other <= rule)
            self.refused(UnlikeSigns, {}, lambda: other + rule)
            self.refused(UnlikeSigns, {}, lambda: other - rule)


def sum_by_words(one, two):
    """The rows of point 8, as it is written."""
    pairs, rows = [(0, 0)], []
    for pair in pairs:
        row = []
        for k in range(len(one.signs)):
            first, second = one.rows[pair[0]][k], two.rows[pair[1]][k]
            led = (first[1], second[1])
            if led not in pairs:
                pairs.append(led)
            row.append((first[0] + second[0], pairs.index(led)))
        rows.append(tuple(row))
    return tuple(rows)


class SumTest(Case):
    def test_negative(self):
        rows = (((5, 1), (0, 0)), ((0, 1), (-3, 0)), ((999, 2), (-999, 2)))
        rule = -Rule(AB, rows)
        self.assertEqual(rule.rows, (((-5, 1), (0, 0)), ((0, 1), (3, 0)), ((-999, 2), (999, 2))))
        self.assertEqual((-rule).rows, rows)
        self.assertIs((-Flat(AB, (1, 2))).__class__, Rule)

    def test_sum_of_made_up_rules(self):
        rnd = seeded(3)
        sizes = set()
        for _ in range(200):
            signs = ("a", "b", "c")[: rnd.randint(1, 3)]
            one = made_rule(rnd, signs, rnd.randint(1, 5), (-9, 0, 1, 4))
            two = made_rule(rnd, signs, rnd.randint(1, 5), (-9, 0, 1, 4))
            rows = sum_by_words(one, two)
            sizes.add(len(rows))
            if len(rows) > 16:
                self.refused(TooMany, {"limit": 16}, lambda: one + two)
                self.refused(TooMany, {"limit": 16}, lambda: one - two)
                continue
            total = one + two
            self.assertIs(total.__class__, Rule)
            self.assertEqual(total.signs, signs)
            self.assertEqual(total.rows, rows)
            self.assertEqual((one - two).rows, (one + -two).rows)
            self.assertEqual(one - two, one + -two)
            for life in all_lives(signs, 4):
                self.assertEqual(total(life), [x + y for x, y in zip(one(life), two(life))])
                self.assertEqual((one - two)(life), [x - y for x, y in zip(one(life), two(life))])
        self.assertGreater(max(sizes), 16)

    def test_sixteen_pairs_and_more(self):
        one = Rule(("a",), (((0, 1),), ((0, 2),), ((0, 3),), ((1, 0),)))
        two = Rule(AB, tuple(((0, (k + 1) % 4), (0, k)) for k in range(4)))
        across = Rule(AB, tuple(((0, k), (1, (k + 1) % 4)) for k in range(4)))
        self.assertEqual(len(two + across), 16)
        wider = Rule(AB, tuple(((0, k), (1, (k + 1) % 5)) for k in range(5)))
        self.refused(TooMany, {"limit": 16}, lambda: two + wider)
        self.assertEqual(len(one + ring_rule(16, signs=("a",))), 16)
        self.refused(TooMany, {"limit": 16}, lambda: one + ring_rule(5, signs=("a",)))
        seventeen = Rule(("a",), tuple(((0, k + 1),) for k in range(15)) + (((0, 15),),))
        ahead = Rule(("a",), (((0, 1),), ((0, 2),), ((0, 1),)))
        self.refused(TooMany, {"limit": 16}, lambda: seventeen + ahead)
        self.assertEqual(len(seventeen + seventeen), 16)

    def test_pairs_that_do_not_come_do_not_count(self):
        wide = Rule(AB, tuple(((0, 0), (0, 0)) for _ in range(16)))
        self.assertEqual((wide + wide).rows, (((0, 0), (0, 0)),))
        out = Rule(AB, (((1, 0), (1, 0)), ((999, 0), (999, 1))))
        self.assertEqual((out + out).rows, (((2, 0), (2, 0)),))

    def test_range_of_sums(self):
        self.assertEqual((Flat(AB, (500, -500)) + Flat(AB, (499, -499))).rows, (((999, 0), (-999, 0)),))
        for amounts in [(500, 0), (0, -500), (999, 0), (0, -999)]:
            self.refused(BadNumber, {"name": "due"}, lambda: Flat(AB, (500, -500)) + Flat(AB, amounts))
        self.assertEqual((Flat(AB, (500, 0)) - Flat(AB, (-499, 0))).rows, (((999, 0), (0, 0)),))
        self.refused(BadNumber, {"name": "due"}, lambda: Flat(AB, (500, 0)) - Flat(AB, (-500, 0)))

    def test_too_many_comes_ahead_of_due(self):
        one = Rule(AB, tuple(((999, (k + 1) % 5), (0, k)) for k in range(5)))
        two = Rule(AB, tuple(((999, k), (0, (k + 1) % 4)) for k in range(4)))
        self.refused(TooMany, {"limit": 16}, lambda: one + two)

    def test_arguments_stay(self):
        one, two = Flat(AB, (1, 2)), Once(AB, "a", 3)
        before = one.rows, two.rows
        one + two, one - two, -one, one <= two, one == two, one.least()
        self.assertEqual((one.rows, two.rows), before)


class LeastTest(Case):
    def test_examples(self):
        two = Rule(AB, (((5, 1), (0, 0)), ((5, 0), (0, 1))))
        self.assertEqual(two.least().rows, (((5, 0), (0, 0)),))
        self.assertIs(two.least().__class__, Rule)
        self.assertIs(Flat(AB, (1, 2)).least().__class__, Rule)
        self.assertEqual(Waiting(AB, "a", 3, 0).least().rows, (((0, 0), (0, 0)),))
        self.assertEqual(len(ring_rule(16).least()), 16)
        backwards = Rule(AB, (((0, 2), (0, 1)), ((1, 1), (1, 1)), ((2, 2), (2, 2)), ((9, 3), (9, 3))))
        self.assertEqual(backwards.least().rows, (((0, 1), (0, 2)), ((2, 1), (2, 1)), ((1, 2), (1, 2))))

    def test_made_up_rules(self):
        rnd = seeded(8)
        for _ in range(60):
            signs = ("a", "b", "c")[: rnd.randint(1, 3)]
            rule = made_rule(rnd, signs, rnd.randint(1, 6 if len(signs) < 3 else 5))
            least = rule.least()
            self.assertEqual(least, rule)
            self.assertEqual(least.rows, least.least().rows)
            # As many states as there are different futures, told apart by lives of 5 days.
            futures = []
            most = 5 if len(signs) < 3 else 4
            for life in all_lives(signs, most):
                state = rule.end(life)
                start = Rule(signs, self.begun_in(rule, state))
                future = tuple(tuple(start(further)) for further in all_lives(signs, most))
                if future not in futures:
                    futures.append(future)
                self.assertEqual(least.end(life), futures.index(future))
            self.assertEqual(len(least), len(futures))

    def begun_in(self, rule, state):
        """The rows of the rule with two states swapped, so that this one is state 0."""
        swap = {0: state, state: 0}
        return tuple(
            tuple((due, swap.get(after, after)) for due, after in rule.rows[swap.get(k, k)]) for k in range(len(rule))
        )


class WordsTest(Case):
    def test_plain_rules(self):
        self.assertEqual(Rule(("a",), (((0, 0),),)).words(), "rows 0:0")
        rule = Rule(AB, (((5, 1), (0, 0)), ((-30, 1), (999, 0))))
        self.assertEqual(rule.words(), "rows 5:1 0:0 -30:1 999:0")
        self.assertEqual((-Flat(AB, (1, -2))).words(), "rows -1:0 2:0")
        self.assertEqual(Flat(AB, (1, -2)).least().words(), "rows 1:0 -2:0")
        self.assertEqual((Flat(AB, (1, -2)) + Flat(AB, (1, 0))).words(), "rows 2:0 -2:0")

    def test_more_than_four_states(self):
        self.assertEqual(ring_rule(5, 7, ("a",)).words(), "rows 0:1 0:2 0:3 0:4 7:0")
        rows = tuple(((k, 15 - k), (-k, k)) for k in range(16))
        pairs = [f"{due}:{after}" for row in rows for due, after in row]
        self.assertEqual(Rule(AB, rows).words(), "rows " + " ".join(pairs))


if __name__ == "__main__":
    unittest.main()
