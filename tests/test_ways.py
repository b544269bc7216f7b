"""Point 26: ways, who hears whom, and the orders in which letters can be read."""

import inspect
import unittest
from itertools import permutations

from duehouse.errors import BadName, BadNumber, NoWay, SameName, Taken, Unknown
from duehouse.ways import Ways, deliveries
from tests.support import Case, seeded

XYZ = ("x", "y", "z")
# The order of the offices is not that of the alphabet.
ZXY = ("z", "x", "y")


def pairs_of(offices):
    return [(writer, reader) for writer in offices for reader in offices if writer != reader]


def all_ways(offices):
    """All sets of ways between these offices, as lists of pairs."""
    pairs = pairs_of(offices)
    for number in range(2 ** len(pairs)):
        yield [pair for at, pair in enumerate(pairs) if number >> at & 1]


def heard_by_words(offices, pairs, office):
    """The offices from which some row of ways leads to this one."""
    heard = {office}
    for many in range(1, len(offices)):
        for row in permutations(offices, many + 1):
            if row[-1] == office and all(step in pairs for step in zip(row, row[1:])):
                heard.add(row[0])
    return tuple(sorted(heard))


class WaysTest(Case):
    def test_constructor(self):
        ways = Ways(["z", "x"], [("z", "x"), ("x", "z"), ("z", "x")])
        self.assertEqual(ways.offices, ("z", "x"))
        self.assertEqual(list(ways), [("x", "z"), ("z", "x")])
        self.assertEqual(len(ways), 2)
        self.assertEqual((list(Ways(("x",))), len(Ways(("x",)))), ([], 0))
        self.assertEqual(list(Ways(XYZ, (("x", "y"),))), [("x", "y")])

    def test_offices(self):
        for make in [lambda offices: Ways(offices, [("q", "q")]), Ways.all_of]:
            self.refused(BadNumber, {"name": "offices"}, make, [])
            self.refused(BadNumber, {"name": "offices"}, make, ["x", "y", "z", "A"])
            for bad in ["", "X", "abcdefghi", "a b", None, True, 5, []]:
                self.refused(BadName, {"name": bad}, make, ["x", bad, "x"])
                self.refused(BadName, {"name": bad}, make, [bad])
            self.refused(Taken, {"name": "x"}, make, ["x", "x", "A"])
            self.refused(BadName, {"name": "A"}, make, ["x", "A", "x"])
            self.refused(Taken, {"name": "y"}, make, ("x", "y", "y"))

    def test_pairs(self):
        for bad in ["q", "", None, True, 0, []]:
            self.refused(Unknown, {"name": bad}, Ways, XYZ, [("x", "y"), (bad, "p")])
            self.refused(Unknown, {"name": bad}, Ways, XYZ, [("x", bad), ("z", "z")])
            self.refused(Unknown, {"name": bad}, Ways, XYZ, [(bad, bad)])
        self.refused(SameName, {"name": "x"}, Ways, XYZ, [("x", "x"), ("q", "x")])
        self.refused(SameName, {"name": "z"}, Ways, XYZ, [("x", "y"), ("z", "z")])

    def test_what_is_passed_stays_and_is_copied(self):
        offices, pairs = ["z", "x"], [("z", "x"), ("x", "z"), ("z", "x")]
        ways = Ways(offices, pairs)
        self.assertEqual((offices, pairs), (["z", "x"], [("z", "x"), ("x", "z"), ("z", "x")]))
        offices.append("y")
        pairs.clear()
        self.assertEqual((ways.offices, len(ways)), (("z", "x"), 2))

    def test_all_of(self):
        for offices in [("x",), ("y", "x"), ZXY]:
            ways = Ways.all_of(list(offices))
            self.assertIsInstance(ways, Ways)
            self.assertEqual(ways.offices, offices)
            self.assertEqual(list(ways), sorted(pairs_of(offices)))
        self.assertIsInstance(vars(Ways)["all_of"], staticmethod)

    def test_in_and_iteration(self):
        for pairs in all_ways(ZXY):
            ways = Ways(ZXY, pairs[::-1])
            self.assertEqual(list(ways), sorted(pairs))
            self.assertEqual(len(ways), len(pairs))
            for pair in [*pairs_of(ZXY), ("x", "x"), ("q", "x"), ("x", "q")]:
                self.assertIs(pair in ways, pair in pairs)

    def test_order(self):
        rnd = seeded(101)
        told = list(all_ways(XYZ))
        met = set()
        for _ in range(1500):
            one = rnd.choice(told)
            two = rnd.choice(told) if rnd.random() < 0.4 else [pair for pair in told[-1] if pair in one or rnd.random() < 0.3]
            if rnd.random() < 0.5:
                one, two = two, one
            left, right = Ways(XYZ, one), Ways(ZXY, two)
            self.assertIs(left <= right, set(one) <= set(two))
            self.assertIs(left == right, set(one) == set(two))
            self.assertIs(left != right, set(one) != set(two))
            met.add((left <= right, left == right))
        self.assertEqual(met, {(True, True), (True, False), (False, False)})
        self.assertNotEqual(Ways(XYZ, [("x", "y")]), [("x", "y")])

    def test_in_place(self):
        rnd = seeded(102)
        told = list(all_ways(XYZ))
        for _ in range(300):
            one, two = rnd.choice(told), rnd.choice(told)
            for sign in ["|=", "-="]:
                left, right = Ways(ZXY, one), Ways(XYZ, two)
                same = left
                if sign == "|=":
                    left |= right
                    wished = set(one) | set(two)
                else:
                    left -= right
                    wished = set(one) - set(two)
                self.assertIs(left, same)
                self.assertEqual(list(left), sorted(wished))
                self.assertEqual((list(right), left.offices, right.offices), (sorted(two), ZXY, XYZ))
                for pair in pairs_of(XYZ):
                    self.assertIs(pair in left, pair in wished)

    def test_in_place_with_itself_and_later_changes(self):
        ways = Ways(XYZ, [("x", "y")])
        ways |= ways
        self.assertEqual(list(ways), [("x", "y")])
        other = Ways(XYZ, [("y", "z")])
        ways |= other
        other.stop("y", "z")
        self.assertEqual(list(ways), [("x", "y"), ("y", "z")])
        ways.stop("x", "y")
        self.assertEqual(list(other), [])
        ways -= ways
        self.assertEqual(list(ways), [])

    def test_in_place_with_other_offices(self):
        # A way that the left one cannot have is refused as in begin, and nothing changes.
        ways, other = Ways(("x", "y")), Ways(XYZ, [("x", "y"), ("y", "z")])
        with self.assertRaises(Unknown) as caught:
            ways |= other
        self.assertEqual((caught.exception.name, list(ways)), ("z", []))
        ways.begin("x", "y")
        ways -= other
        self.assertEqual(list(ways), [])
        other -= Ways(("w", "y"), [("w", "y")])
        self.assertEqual(len(other), 2)

    def test_begin(self):
        ways = Ways(ZXY, [("z", "x")])
        self.assertIsNone(ways.begin("x", "z"))
        self.assertIsNone(ways.begin("x", "z"))
        self.assertIsNone(ways.begin("z", "x"))
        self.assertIsNone(ways.begin("y", "x"))
        self.assertEqual(list(ways), [("x", "z"), ("y", "x"), ("z", "x")])
        self.assertEqual(len(ways), 3)
        for bad in ["q", "", None, True, []]:
            self.refused(Unknown, {"name": bad}, ways.begin, bad, "p")
            self.refused(Unknown, {"name": bad}, ways.begin, bad, bad)
            self.refused(Unknown, {"name": bad}, ways.begin, "x", bad)
        self.refused(SameName, {"name": "y"}, ways.begin, "y", "y")
        self.assertEqual(list(ways), [("x", "z"), ("y", "x"), ("z", "x")])

    def test_stop(self):
        ways = Ways(ZXY, [("z", "x"), ("x", "z")])
        self.assertIsNone(ways.stop("z", "x"))
        self.assertEqual(list(ways), [("x", "z")])
        for pair in [("z", "x"), ("y", "x"), ("x", "x"), ("q", "x"), ("x", "q"), ("", ""), (None, "x"), ("x", True)]:
            self.refused(NoWay, {"writer": pair[0], "reader": pair[1]}, ways.stop, *pair)
        ways.begin("z", "x")
        ways.stop("z", "x")
        ways.stop("x", "z")
        self.assertEqual((list(ways), len(ways)), ([], 0))
        ways.begin("z", "x")
        self.assertEqual(list(ways), [("z", "x")])

    def test_copy(self):
        ways = Ways(ZXY, [("z", "x")])
        twin = ways.copy()
        self.assertIsInstance(twin, Ways)
        self.assertEqual((twin.offices, list(twin)), (ZXY, [("z", "x")]))
        twin.begin("x", "y")
        ways.stop("z", "x")
        self.assertEqual((list(twin), list(ways)), ([("x", "y"), ("z", "x")], []))


class HearingTest(Case):
    def test_chains_and_rings(self):
        chain = Ways(ZXY, [("z", "x"), ("x", "y")])
        self.assertEqual([chain.hears(office) for office in ZXY], [("z",), ("x", "z"), ("x", "y", "z")])
        self.assertEqual([chain.writes(office) for office in ZXY], [("x",), ("y",), ()])
        self.assertEqual(chain.lacking(), [("z", "x"), ("z", "y"), ("x", "y")])
        ring = Ways(ZXY, [("z", "x"), ("x", "y"), ("y", "z")])
        self.assertEqual([ring.hears(office) for office in ZXY], [XYZ] * 3)
        self.assertEqual(ring.lacking(), [])
        none = Ways(ZXY)
        self.assertEqual([none.hears(office) for office in ZXY], [("z",), ("x",), ("y",)])
        self.assertEqual(none.lacking(), [("z", "x"), ("z", "y"), ("x", "z"), ("x", "y"), ("y", "z"), ("y", "x")])

    def test_all_ways(self):
        for offices in [("x",), ("y", "x"), ZXY]:
            for pairs in all_ways(offices):
                ways = Ways(offices, pairs)
                lacking = []
                for office in offices:
                    heard = heard_by_words(offices, pairs, office)
                    self.assertEqual(ways.hears(office), heard)
                    written = tuple(sorted(reader for writer, reader in pairs if writer == office))
                    self.assertEqual(ways.writes(office), written)
                    lacking.extend((office, other) for other in offices if other not in heard)
                self.assertEqual(ways.lacking(), lacking)
                self.assertEqual(list(ways), sorted(pairs))

    def test_unknown(self):
        ways = Ways.all_of(XYZ)
        for bad in ["q", "", None, True, 0, []]:
            self.refused(Unknown, {"name": bad}, ways.writes, bad)
            self.refused(Unknown, {"name": bad}, ways.hears, bad)


def orders_by_words(ways, office):
    """All orders, by doing each of them."""
    found = []

    def read(order, waiting, learnt):
        if not waiting:
            found.append(tuple(order))
        for at, letter in enumerate(waiting):
            left = waiting[:at] + waiting[at + 1:]
            reader = letter[1]
            if reader in learnt:
                read([*order, letter], left, learnt)
            else:
                new = [(reader, other) for other in ways.writes(reader)]
                read([*order, letter], left + new, learnt | {reader})

    read([], [(office, other) for other in ways.writes(office)], {office})
    return found


class DeliveriesTest(Case):
    def test_examples(self):
        self.assertEqual(list(deliveries(Ways(ZXY), "x")), [()])
        self.assertEqual(list(deliveries(Ways(("x",)), "x")), [()])
        chain = Ways(ZXY, [("z", "x"), ("x", "y")])
        self.assertEqual(list(deliveries(chain, "z")), [(("z", "x"), ("x", "y"))])
        self.assertEqual(list(deliveries(chain, "x")), [(("x", "y"),)])
        self.assertEqual(list(deliveries(chain, "y")), [()])
        fork = Ways(XYZ, [("x", "y"), ("x", "z")])
        self.assertEqual(list(deliveries(fork, "x")), [
            (("x", "y"), ("x", "z")), (("x", "z"), ("x", "y")),
        ])
        both = Ways(("x", "y"), [("x", "y"), ("y", "x")])
        self.assertEqual(list(deliveries(both, "y")), [(("y", "x"), ("x", "y"))])

    def test_all_ways(self):
        for pairs in all_ways(ZXY):
            ways = Ways(ZXY, pairs)
            for office in ZXY:
                told = list(deliveries(ways, office))
                self.assertEqual(told, sorted(orders_by_words(ways, office)))
                self.assertEqual(len(set(told)), len(told))
                # When no letter waits, just those have learnt the entry that hear the office.
                for order in told:
                    learnt = {office} | {reader for _, reader in order}
                    self.assertEqual(learnt, {other for other in ZXY if office in ways.hears(other)})
                self.assertEqual(list(ways), sorted(pairs))

    def test_is_a_generator(self):
        self.assertTrue(inspect.isgeneratorfunction(deliveries))
        self.assertEqual(next(deliveries(Ways.all_of(ZXY), "z"))[0], ("z", "x"))


if __name__ == "__main__":
    unittest.main()
