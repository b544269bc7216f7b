"""Point 24: balances and transfers."""

import unittest

from duehouse.clearing import cleared, made
from duehouse.errors import Unknown
from tests.support import Case, seeded


def opposed(balances):
    return any(one > 0 > two for one in balances.values() for two in balances.values())


def shortest_lists(balances, most=3):
    """All shortest lists of transfers behind which no balances are opposed, by trying all lists."""
    lists = [([], dict(balances))]
    for _ in range(most + 1):
        done = [told for told, behind in lists if not opposed(behind)]
        if done:
            return done
        longer = []
        for told, behind in lists:
            for giver in behind:
                for taker in behind:
                    if behind[giver] > 0 > behind[taker]:
                        amount = min(behind[giver], -behind[taker])
                        moved = {**behind, giver: behind[giver] - amount, taker: behind[taker] + amount}
                        longer.append(([*told, (giver, taker, amount)], moved))
        lists = longer
    raise AssertionError("no list")


class ClearedTest(Case):
    def check(self, balances):
        told = dict(balances)
        found = cleared(balances)
        self.assertEqual((balances, list(balances)), (told, list(told)))
        self.assertEqual(found, min(shortest_lists(balances)))
        self.assertIsInstance(found, list)
        behind = dict(balances)
        for transfer in found:
            self.assertIsInstance(transfer, tuple)
            giver, taker, amount = transfer
            self.assertTrue(behind[giver] > 0 > behind[taker])
            self.assertEqual(amount, min(behind[giver], -behind[taker]))
            behind[giver] -= amount
            behind[taker] += amount
        self.assertEqual(made(balances, found), behind)
        asked_back = -sum(amount for amount in behind.values() if amount < 0)
        self.assertEqual(asked_back, max(0, -sum(balances.values())))
        return found

    def test_examples(self):
        self.assertEqual(self.check({"x": 5, "y": -3, "z": -4}), [("x", "y", 3), ("x", "z", 2)])
        self.assertEqual(self.check({"z": 5, "y": -3, "x": -4}), [("z", "x", 4), ("z", "y", 1)])
        # One transfer of opposite amounts is enough; the ascending list of all would need two.
        self.assertEqual(self.check({"x": 5, "y": -3, "z": -5}), [("x", "z", 5)])
        self.assertEqual(self.check({"x": 5, "y": 5, "z": -5}), [("x", "z", 5)])
        self.assertEqual(self.check({"x": 4, "y": 5, "z": -5}), [("y", "z", 5)])
        self.assertEqual(self.check({"x": 4, "y": 2, "z": -9}), [("x", "z", 4), ("y", "z", 2)])
        self.assertEqual(self.check({"b": -1, "a": 1}), [("a", "b", 1)])

    def test_nothing_to_do(self):
        for balances in [
            {"x": 0}, {"x": 7}, {"x": -7}, {"x": 0, "y": 0, "z": 0}, {"x": 3, "y": 0, "z": 9999},
            {"x": -3, "y": 0, "z": -9999}, {"x": 0, "y": -1}, {"x": 1, "y": 0},
        ]:
            self.assertEqual(self.check(balances), [])

    def test_small_balances(self):
        for x in range(-3, 4):
            for y in range(-3, 4):
                self.check({"y": x, "x": y})
                for z in range(-3, 4):
                    self.check({"y": x, "z": y, "x": z})

    def test_made_up_balances(self):
        rnd = seeded(111)
        met = set()
        for _ in range(400):
            offices = rnd.sample(["a", "ab", "b", "zz"], rnd.randint(1, 3))
            amounts = rnd.choice([(-9999, 9999, 0), range(-9999, 10000), range(-6, 7)])
            met.add(len(self.check({office: rnd.choice(amounts) for office in offices})))
        self.assertEqual(met, {0, 1, 2})

    def test_a_new_list(self):
        balances = {"x": 5, "y": -3}
        cleared(balances).clear()
        self.assertEqual(cleared(balances), [("x", "y", 3)])


class MadeTest(Case):
    def test_order_and_copies(self):
        balances, transfers = {"z": 5, "x": -3, "y": 0}, [("z", "x", 3)]
        behind = made(balances, transfers)
        self.assertEqual(list(behind.items()), [("z", 2), ("x", 0), ("y", 0)])
        self.assertEqual((balances, transfers), ({"z": 5, "x": -3, "y": 0}, [("z", "x", 3)]))
        same = made(balances, [])
        self.assertEqual(list(same.items()), list(balances.items()))
        same["z"] = 9
        self.assertEqual(balances["z"], 5)

    def test_no_conditions_are_asked(self):
        balances = {"x": -5, "y": 3}
        self.assertEqual(made(balances, [("x", "y", 7), ("y", "x", -1), ("x", "x", 4)]), {"x": -13, "y": 11})
        self.assertEqual(made(balances, [("y", "x", 0)]), balances)

    def test_unknown(self):
        balances = {"x": 5, "y": -3}
        for bad in ["q", "", None, True, 0, []]:
            self.refused(Unknown, {"name": bad}, made, balances, [("x", "y", 1), (bad, "p", 1), ("w", "x", 1)])
            self.refused(Unknown, {"name": bad}, made, balances, [("x", bad, 1), ("w", "x", 1)])
            self.refused(Unknown, {"name": bad}, made, balances, [("x", "y", 1), (bad, bad, 1)])
        self.assertEqual(balances, {"x": 5, "y": -3})


if __name__ == "__main__":
    unittest.main()
