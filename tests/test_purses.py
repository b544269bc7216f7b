"""Points 22 and 23: purses, holds, runs, and lists of steps that lose."""

import inspect
import unittest
from itertools import product

from duehouse.errors import BadMark, BadNumber, Closed
from duehouse.purses import Held, Purse, least_loss, loses, paid_while_held, set_marks
from tests.support import Case, seeded

KEEPING = ("keep", "drop")
STATE = ("unit", "rest", "cap", "held_mark", "due", "waiting", "paid", "is_held", "closed")


def state_of(purse):
    """All that a purse tells of itself."""
    return {name: getattr(purse, name) for name in STATE}


def made_purse(rnd):
    cap = rnd.choice([None, 1, 2, 3, 7, 99])
    return Purse(unit=rnd.randint(1, 5), rest=rnd.choice(KEEPING), cap=cap, held=rnd.choice(KEEPING))


class ByWords:
    """A purse as point 22 tells it."""

    def __init__(self, unit, rest, cap, held):
        self.unit, self.rest, self.cap, self.held = unit, rest, cap, held
        self.due = self.waits = self.paid = self.booked = self.lost = 0
        self.is_held = False

    def book(self, amount):
        self.booked += amount
        if not self.is_held:
            self.due += amount
        elif self.held == "drop" and amount > 0:
            self.lost += amount
        else:
            self.waits += amount

    def run(self):
        if self.is_held:
            return 0
        if self.due < 0:
            amount = -min(-self.due, 10 ** 9 if self.cap is None else self.cap)
        else:
            amount = max(part for part in range(0, self.due + 1) if part % self.unit == 0)
            if self.rest == "drop":
                self.lost += self.due - amount
                self.due = amount
        self.due -= amount
        self.paid += amount
        return amount

    def free(self):
        self.due, self.waits, self.is_held = self.due + self.waits, 0, False

    def close(self):
        self.free()
        amount, self.due = self.due, 0
        self.paid += amount
        return amount


def by_words(purse):
    return ByWords(purse.unit, purse.rest, purse.cap, purse.held_mark)


class MarksTest(Case):
    def test_usual_purse(self):
        self.assertEqual(state_of(Purse()), {
            "unit": 1, "rest": "keep", "cap": None, "held_mark": "keep", "due": 0, "waiting": 0, "paid": 0,
            "is_held": False, "closed": False,
        })
        purse = Purse(unit=5, rest="drop", cap=99, held="drop")
        self.assertEqual((purse.unit, purse.rest, purse.cap, purse.held_mark), (5, "drop", 99, "drop"))
        with self.assertRaises(TypeError):
            Purse(1)

    def test_values(self):
        for unit in range(1, 6):
            self.assertEqual(Purse(unit=unit).unit, unit)
        for cap in [None, *range(1, 100)]:
            self.assertEqual(Purse(cap=cap).cap, cap)

    def test_values_that_are_none(self):
        bad_marks = {
            "unit": [0, 6, -1, True, False, None, "1", 1.0, [], "keep"],
            "rest": [None, True, False, 0, 1, "", "Keep", "keep ", "kept", b"keep", [], ("keep",)],
            "cap": [0, 100, -1, True, False, "1", "None", 1.0, [], "keep"],
            "held": [None, True, False, 0, 1, "", "Drop", "drop ", b"drop", [], ("drop",)],
        }
        for word, values in bad_marks.items():
            for bad in values:
                with self.subTest((word, bad)):
                    self.refused(BadMark, {"word": word, "value": bad}, Purse, **{word: bad})

    def test_the_first_one_is_refused(self):
        bad = {"unit": 0, "rest": "", "cap": 0, "held": None}
        words = list(bad)
        for at, word in enumerate(words):
            told = {other: bad[other] for other in reversed(words[at:])}
            self.refused(BadMark, {"word": word, "value": bad[word]}, Purse, **told)

    def test_properties(self):
        for name in ["unit", "cap"]:
            self.assertIsInstance(vars(Purse)[name], property)
        purse = Purse()
        purse.unit = 5
        purse.cap = 99
        self.assertEqual((purse.unit, purse.cap), (5, 99))
        purse.cap = None
        purse.unit = 1
        self.assertEqual((purse.unit, purse.cap), (1, None))
        for bad in [0, 6, True, None, "2"]:
            self.refused(BadMark, {"word": "unit", "value": bad}, setattr, purse, "unit", bad)
        for bad in [0, 100, True, False, "2"]:
            self.refused(BadMark, {"word": "cap", "value": bad}, setattr, purse, "cap", bad)
        self.assertEqual((purse.unit, purse.cap), (1, None))
        purse.close()
        purse.unit = 2
        self.assertEqual(purse.unit, 2)

    def test_new_marks_count_at_once(self):
        purse = Purse(unit=5, cap=1)
        purse.book(13)
        purse.unit = 4
        self.assertEqual(purse.run(), 12)
        purse.book(-10)
        purse.cap = 4
        self.assertEqual([purse.run(), purse.run()], [-4, -4])
        purse.cap = None
        self.assertEqual(list(purse.next_runs()), [-1])

    def test_set_marks(self):
        purse = Purse(unit=2, cap=3, rest="drop")
        self.assertIsNone(set_marks(purse, unit=4, cap=None))
        self.assertEqual((purse.unit, purse.cap, purse.rest), (4, None, "drop"))
        self.assertIsNone(set_marks(purse, cap=1, unit=1))
        self.assertEqual((purse.unit, purse.cap), (1, 1))
        for bad in [0, 6, True, None]:
            self.refused(BadMark, {"word": "unit", "value": bad}, set_marks, purse, unit=bad, cap=9)
            self.refused(BadMark, {"word": "unit", "value": bad}, set_marks, purse, cap=0, unit=bad)
        for bad in [0, 100, True, "9"]:
            self.refused(BadMark, {"word": "cap", "value": bad}, set_marks, purse, unit=5, cap=bad)
        self.assertEqual((purse.unit, purse.cap), (1, 1))


class BookingTest(Case):
    def test_books(self):
        purse = Purse()
        self.assertIsNone(purse.book(5))
        self.assertIsNone(purse.book(-7))
        self.assertEqual((purse.due, purse.waiting, purse.paid), (-2, 0, 0))
        purse.book(0)
        purse.book(9999)
        purse.book(-9999)
        self.assertEqual(purse.due, -2)

    def test_amounts(self):
        purse = Purse()
        purse.hold()
        for held in [True, False]:
            for bad in [10000, -10000, True, False, None, "5", 1.0, [], ()]:
                self.refused(BadNumber, {"name": "amount"}, purse.book, bad)
            self.assertEqual((purse.due, purse.waiting, purse.is_held), (0, 0, held))
            purse.free()

    def test_held_purse(self):
        for mark in KEEPING:
            purse = Purse(held=mark)
            purse.book(3)
            self.assertIsNone(purse.hold())
            self.assertTrue(purse.is_held)
            purse.book(4)
            purse.book(-9)
            purse.book(0)
            kept = -5 if mark == "keep" else -9
            self.assertEqual((purse.due, purse.waiting), (3, kept))
            self.assertEqual((purse.run(), purse.due, purse.waiting, purse.paid), (0, 3, kept, 0))
            self.assertIsNone(purse.hold())
            self.assertEqual((purse.due, purse.waiting, purse.is_held), (3, kept, True))
            self.assertIsNone(purse.free())
            self.assertEqual((purse.due, purse.waiting, purse.is_held), (3 + kept, 0, False))
            self.assertIsNone(purse.free())
            self.assertEqual((purse.due, purse.waiting), (3 + kept, 0))
            purse.book(4)
            self.assertEqual(purse.due, 7 + kept)

    def test_truth(self):
        purse = Purse()
        self.assertIs(bool(purse), True)
        purse.book(5)
        self.assertIs(bool(purse), False)
        purse.run()
        self.assertIs(bool(purse), True)
        purse.hold()
        self.assertIs(bool(purse), True)
        purse.book(-5)
        self.assertIs(bool(purse), False)
        purse.book(5)
        self.assertIs(bool(purse), True)
        purse.book(5)
        purse.free()
        purse.hold()
        purse.book(-5)
        # What is due and what waits are 0 in sum, but neither is.
        self.assertEqual((purse.due, purse.waiting), (5, -5))
        self.assertIs(bool(purse), False)
        purse.close()
        self.assertIs(bool(purse), True)


class RunTest(Case):
    def test_units(self):
        for unit in range(1, 6):
            for rest in KEEPING:
                for due in range(0, 13):
                    purse = Purse(unit=unit, rest=rest, cap=1)
                    purse.book(due)
                    self.assertEqual(purse.run(), due - due % unit)
                    self.assertEqual(purse.due, due % unit if rest == "keep" else 0)
                    self.assertEqual(purse.paid, due - due % unit)
                    self.assertEqual(purse.run(), 0)

    def test_caps(self):
        for rest in KEEPING:
            for unit in [1, 5]:
                purse = Purse(cap=3, rest=rest, unit=unit)
                purse.book(-7)
                self.assertEqual([purse.run() for _ in range(4)], [-3, -3, -1, 0])
                self.assertEqual((purse.due, purse.paid), (0, -7))
                purse = Purse(rest=rest, unit=unit)
                purse.book(-7)
                self.assertEqual([purse.run(), purse.run()], [-7, 0])
                purse = Purse(cap=7, rest=rest, unit=unit)
                purse.book(-7)
                self.assertEqual((purse.run(), purse.due), (-7, 0))
        purse = Purse(cap=99)
        purse.book(-100)
        self.assertEqual([purse.run(), purse.run()], [-99, -1])

    def test_what_is_left_over(self):
        purse = Purse(unit=5)
        purse.book(4)
        self.assertEqual((purse.run(), purse.due), (0, 4))
        purse.book(4)
        self.assertEqual((purse.run(), purse.due), (5, 3))
        purse = Purse(unit=5, rest="drop")
        purse.book(4)
        self.assertEqual((purse.run(), purse.due), (0, 0))
        purse.book(-4)
        self.assertEqual((purse.run(), purse.due, purse.paid), (-4, 0, -4))
        purse.book(9)
        purse.hold()
        self.assertEqual((purse.run(), purse.due), (0, 9))

    def test_close(self):
        for mark in KEEPING:
            purse = Purse(unit=5, cap=1, rest="drop", held=mark)
            purse.book(4)
            self.assertEqual(purse.close(), 4)
            self.assertEqual((purse.due, purse.waiting, purse.paid, purse.closed), (0, 0, 4, True))
            purse = Purse(unit=5, cap=1, held=mark)
            purse.book(-9)
            self.assertEqual(purse.close(), -9)
            self.assertEqual((purse.due, purse.paid), (0, -9))
            purse = Purse(held=mark)
            purse.book(4)
            purse.run()
            purse.hold()
            purse.book(-9)
            purse.book(2)
            wished = -7 if mark == "keep" else -9
            self.assertEqual(purse.close(), wished)
            self.assertEqual((purse.due, purse.waiting, purse.paid), (0, 0, 4 + wished))
            self.assertIs(purse.is_held, False)
        self.assertEqual(Purse().close(), 0)

    def test_deeds_behind_close(self):
        for ahead in [(), ("hold",), ("hold", "free")]:
            purse = Purse()
            purse.book(5)
            for word in ahead:
                getattr(purse, word)()
            purse.close()
            before = state_of(purse)
            for call in [purse.hold, purse.free, purse.run, purse.close]:
                self.refused(Closed, {}, call)
            for amount in [5, 10000, True, None]:
                self.refused(Closed, {}, purse.book, amount)
            self.assertEqual(state_of(purse), before)
            self.assertEqual(list(purse.next_runs()), [])

    def test_made_up_deeds(self):
        rnd = seeded(81)
        for _ in range(400):
            purse = made_purse(rnd)
            words = by_words(purse)
            for _ in range(rnd.randint(1, 25)):
                deed = rnd.choice(["book", "book", "book", "run", "hold", "free"])
                if deed == "book":
                    amount = rnd.randint(-12, 14)
                    purse.book(amount)
                    words.book(amount)
                elif deed == "run":
                    self.assertEqual(purse.run(), words.run())
                elif deed == "hold":
                    purse.hold()
                    words.is_held = True
                else:
                    purse.free()
                    words.free()
                told = (words.due, words.waits, words.paid, words.is_held)
                self.assertEqual((purse.due, purse.waiting, purse.paid, purse.is_held), told)
                self.assertEqual(purse.paid + purse.due + purse.waiting, words.booked - words.lost)
                if purse.rest == purse.held_mark == "keep":
                    self.assertEqual(words.lost, 0)
                self.assertIs(bool(purse), purse.due == purse.waiting == 0)
            self.assertEqual(purse.close(), words.close())
            self.assertEqual(purse.paid, words.booked - words.lost)


class NextRunsTest(Case):
    def test_examples(self):
        purse = Purse(unit=5, cap=3)
        self.assertEqual(list(purse.next_runs()), [])
        purse.book(13)
        self.assertEqual(list(purse.next_runs()), [10])
        purse.run()
        self.assertEqual(list(purse.next_runs()), [])
        purse.book(-10)
        self.assertEqual(list(purse.next_runs()), [-3, -3, -1])
        purse.hold()
        self.assertEqual(list(purse.next_runs()), [])
        purse.close()
        self.assertEqual(list(purse.next_runs()), [])

    def test_is_a_generator(self):
        self.assertTrue(inspect.isgeneratorfunction(Purse.next_runs))
        purse = Purse(cap=1)
        purse.book(-9999)
        self.assertEqual(next(purse.next_runs()), -1)

    def test_against_runs(self):
        rnd = seeded(82)
        for _ in range(300):
            purse = made_purse(rnd)
            for _ in range(rnd.randint(0, 4)):
                purse.book(rnd.randint(-40, 20))
                if rnd.random() < 0.3:
                    purse.run()
            before = state_of(purse)
            told = list(purse.next_runs())
            self.assertEqual(state_of(purse), before)
            self.assertEqual(list(purse.next_runs()), told)
            self.assertNotIn(0, told)
            twin = purse.copy()
            self.assertEqual([twin.run() for _ in range(len(told) + 3)], [*told, 0, 0, 0])


class CopyTest(Case):
    def test_copy(self):
        purse = Purse(unit=2, rest="drop", cap=3, held="drop")
        purse.book(7)
        purse.run()
        purse.book(1)
        purse.hold()
        purse.book(-4)
        twin = purse.copy()
        self.assertEqual(state_of(twin), state_of(purse))
        before = state_of(purse)
        twin.free()
        self.assertEqual(twin.due, -3)
        twin.unit = 5
        twin.cap = None
        twin.close()
        self.assertEqual(state_of(purse), before)
        closed = twin.copy()
        self.assertTrue(closed.closed)
        self.refused(Closed, {}, closed.run)

    def test_empty_copy(self):
        purse = Purse(unit=2, rest="drop", cap=3, held="drop")
        purse.book(7)
        purse.hold()
        purse.book(-4)
        for closed in [False, True]:
            if closed:
                purse.close()
            empty = purse.empty_copy()
            self.assertEqual(state_of(empty), state_of(Purse(unit=2, rest="drop", cap=3, held="drop")))
            empty.book(9)
            self.assertEqual(purse.closed, closed)
        self.assertEqual(purse.paid, 3)


class HeldTest(Case):
    def test_block(self):
        purse = Purse()
        purse.book(5)
        with Held(purse) as held:
            self.assertIs(held, purse)
            self.assertTrue(purse.is_held)
            purse.book(-7)
            self.assertEqual((purse.due, purse.waiting, purse.run()), (5, -7, 0))
        self.assertEqual((purse.due, purse.waiting, purse.is_held), (-2, 0, False))
        self.assertEqual(purse.run(), -2)

    def test_behind_an_error(self):
        purse = Purse(held="drop")
        with self.assertRaises(KeyError):
            with Held(purse):
                purse.book(4)
                purse.book(-3)
                raise KeyError("x")
        self.assertEqual((purse.due, purse.waiting, purse.is_held), (-3, 0, False))
        caught = None
        try:
            with Held(purse):
                purse.book(10000)
        except BadNumber as error:
            caught = error
        self.assertEqual(caught.name, "amount")
        self.assertFalse(purse.is_held)

    def test_held_ahead_of_it(self):
        for error in [False, True]:
            purse = Purse()
            purse.book(5)
            purse.hold()
            purse.book(1)
            try:
                with Held(purse):
                    purse.book(-7)
                    if error:
                        raise KeyError("x")
            except KeyError:
                pass
            self.assertEqual((purse.due, purse.waiting, purse.is_held), (5, -6, True))
            purse.free()
            self.assertEqual(purse.due, -1)

    def test_one_in_another(self):
        purse = Purse()
        with Held(purse):
            purse.book(3)
            with Held(purse):
                purse.book(4)
            self.assertEqual((purse.due, purse.waiting, purse.is_held), (0, 7, True))
        self.assertEqual((purse.due, purse.waiting, purse.is_held), (7, 0, False))

    def test_freed_or_closed_in_it(self):
        purse = Purse()
        with Held(purse):
            purse.book(3)
            purse.free()
            purse.book(4)
            purse.run()
            purse.book(1)
        self.assertEqual((purse.due, purse.waiting, purse.paid, purse.is_held), (1, 0, 7, False))
        with Held(purse):
            purse.book(5)
            self.assertEqual(purse.close(), 6)
        self.assertEqual((purse.due, purse.waiting, purse.paid, purse.is_held), (0, 0, 13, False))

    def test_closed_purse(self):
        purse = Purse()
        purse.book(4)
        purse.close()
        before = state_of(purse)

        def enter():
            with Held(purse):
                raise AssertionError("entered")

        self.refused(Closed, {}, enter)
        self.assertEqual(state_of(purse), before)

    def test_paid_while_held(self):
        purse = Purse()
        purse.book(5)
        self.assertEqual(paid_while_held(purse, [1, -2, 9]), [0, 0, 0])
        self.assertEqual((purse.due, purse.waiting, purse.paid, purse.is_held), (13, 0, 0, False))
        purse.hold()
        amounts = [4, -20]
        self.assertEqual(paid_while_held(purse, amounts), [0, 0])
        self.assertEqual((purse.due, purse.waiting, purse.is_held, amounts), (13, -16, True, [4, -20]))
        self.assertEqual(paid_while_held(purse, []), [])
        dropping = Purse(held="drop")
        self.assertEqual(paid_while_held(dropping, [4, -9999, 9999]), [0, 0, 0])
        self.assertEqual(dropping.due, -9999)

    def test_paid_while_held_refuses(self):
        purse = Purse()
        purse.book(5)
        for held in [False, True]:
            before = state_of(purse)
            self.assertIs(purse.is_held, held)
            for bad in [10000, -10000, True, False, None, "1"]:
                self.refused(BadNumber, {"name": "amount"}, paid_while_held, purse, [1, 2, bad])
                self.refused(BadNumber, {"name": "amount"}, paid_while_held, purse, [bad, 1])
                self.assertEqual(state_of(purse), before)
            purse.hold()
        purse.close()
        for amounts in [[], [1], [10000]]:
            self.refused(Closed, {}, paid_while_held, purse, amounts)


def loses_by_words(purse, steps):
    words = by_words(purse)
    for step in steps:
        if step[0] == "hold":
            words.is_held = True
        else:
            getattr(words, step[0])(*step[1:])
    words.close()
    return words.paid != words.booked


def least_by_search(purse, amounts, most):
    """The least number of steps of a list that loses, None if none of at most so many steps does."""
    steps = [("hold",), ("free",), ("run",), *[("book", amount) for amount in amounts]]
    for many in range(most + 1):
        for told in product(steps, repeat=many):
            if loses_by_words(purse, told):
                return many
    return None


def least_by_dues(purse, amounts):
    """The least number of steps by which a run loses a rest, over all dues in a wide range."""
    met, layer, many = {0}, [0], 0
    while layer:
        behind = []
        for due in layer:
            if due > 0 and due % purse.unit:
                return many + 1
            cap = -due if purse.cap is None else purse.cap
            ran = due + min(-due, cap) if due < 0 else 0
            for other in [ran, *[due + amount for amount in amounts]]:
                if other not in met and -600 <= other <= 400:
                    met.add(other)
                    behind.append(other)
        layer, many = behind, many + 1
    return None


class LossTest(Case):
    def test_loses(self):
        drop = Purse(unit=5, rest="drop")
        self.assertIs(loses(drop, []), False)
        self.assertIs(loses(drop, [("book", 4)]), False)
        self.assertIs(loses(drop, [("book", 4), ("run",)]), True)
        self.assertIs(loses(drop, [("book", 5), ("run",)]), False)
        self.assertIs(loses(drop, [("book", 4), ("hold",), ("run",)]), False)
        self.assertIs(loses(drop, [("book", 4), ("hold",), ("free",), ("run",)]), True)
        self.assertIs(loses(drop, [("book", 9), ("book", -4), ("run",)]), False)
        held = Purse(held="drop")
        self.assertIs(loses(held, [("hold",), ("book", 1)]), True)
        self.assertIs(loses(held, [("hold",), ("book", -1)]), False)
        self.assertIs(loses(held, [("hold",), ("free",), ("book", 1)]), False)

    def test_the_purse_itself_stays(self):
        purse = Purse(unit=5, rest="drop", held="drop")
        purse.book(7)
        purse.hold()
        before = state_of(purse)
        steps = [("book", 4), ("run",)]
        self.assertTrue(loses(purse, steps))
        self.assertEqual(least_loss(purse, [4]).__class__, list)
        self.assertEqual((state_of(purse), steps), (before, [("book", 4), ("run",)]))
        purse.close()
        self.assertTrue(loses(purse, steps))
        self.assertFalse(loses(purse, []))

    def test_made_up_lists(self):
        rnd = seeded(83)
        met = set()
        for _ in range(500):
            purse = made_purse(rnd)
            steps = []
            for _ in range(rnd.randint(0, 9)):
                word = rnd.choice(["book", "book", "hold", "free", "run"])
                steps.append(("book", rnd.randint(-9, 9)) if word == "book" else (word,))
            lost = loses(purse, steps)
            self.assertIs(lost, loses_by_words(purse, steps))
            met.add((purse.rest, purse.held_mark, lost))
        self.assertEqual(len(met), 7)
        self.assertNotIn(("keep", "keep", True), met)

    def test_least_loss_examples(self):
        self.assertIsNone(least_loss(Purse(unit=5, cap=1), [3, -7]))
        self.assertIsNone(least_loss(Purse(unit=5, rest="drop"), [5, 10, -20]))
        self.assertIsNone(least_loss(Purse(unit=1, rest="drop"), [1, 2, 3, -1]))
        self.assertIsNone(least_loss(Purse(unit=2, rest="drop"), [-1, -3, 0]))
        self.assertIsNone(least_loss(Purse(held="drop"), [-1, 0]))
        self.assertEqual(least_loss(Purse(held="drop"), [-1, 0, 7]), [("hold",), ("book", 7)])
        self.assertEqual(least_loss(Purse(unit=2, rest="drop"), [4, 3]), [("book", 3), ("run",)])
        self.assertEqual(len(least_loss(Purse(unit=5, rest="drop"), [5, -3])), 3)

    def check(self, purse, amounts, most):
        told = list(amounts)
        found = least_loss(purse, amounts)
        self.assertEqual(amounts, told)
        self.assertEqual(least_loss(purse, amounts), found)
        searched = least_by_search(purse, amounts, most)
        if found is None:
            self.assertIsNone(searched)
            return None
        self.assertTrue(loses_by_words(purse, found))
        self.assertTrue(loses(purse, found))
        for step in found:
            self.assertTrue(step in [("hold",), ("free",), ("run",)] or (step[0] == "book" and step[1] in amounts))
        if searched is None:
            self.assertGreater(len(found), most)
        else:
            self.assertEqual(len(found), searched)
        return len(found)

    def test_least_loss_by_search(self):
        rnd = seeded(84)
        met = set()
        for _ in range(120):
            amounts = rnd.sample(rnd.choice([range(-20, 21), range(-4, 5), range(-6, 7, 2), (-5, -1, 5, 10)]), rnd.randint(1, 4))
            met.add(self.check(made_purse(rnd), amounts, 4))
        self.assertTrue({None, 2, 3} <= met)

    def test_least_loss_by_dues(self):
        rnd = seeded(85)
        met = set()
        for _ in range(300):
            amounts = rnd.sample(range(-20, 21, rnd.choice([1, 2, 4, 5])), rnd.randint(1, 4))
            purse = Purse(unit=rnd.randint(2, 5), rest="drop", cap=rnd.choice([None, 1, 3, 50, 98, 99]))
            found = least_loss(purse, amounts)
            many = None if found is None else len(found)
            self.assertEqual(many, least_by_dues(purse, amounts))
            self.assertTrue(found is None or loses_by_words(purse, found))
            met.add(many)
        self.assertTrue({None, 2, 3, 4} <= met and max(met - {None}) > 20)

    def test_caps_that_make_a_rest(self):
        # Only what a run with a cap leaves over is no multiple of the unit.
        purse = Purse(unit=2, rest="drop", cap=1)
        self.assertEqual(self.check(purse, [-2, 2], 4), 4)
        self.assertEqual(self.check(Purse(unit=4, rest="drop", cap=2), [-4, 4], 4), 4)
        self.assertIsNone(self.check(Purse(unit=2, rest="drop", cap=4), [-2, 2], 4))
        self.assertIsNone(self.check(Purse(unit=2, rest="drop"), [-2, 2], 4))

    def test_long_losses(self):
        # -100 is the first due that leaves something behind a run: -1, then 1 behind a booking.
        purse = Purse(unit=2, rest="drop", cap=99)
        found = least_loss(purse, [-2, 2])
        self.assertTrue(loses_by_words(purse, found))
        self.assertEqual(len(found), 53)
        far = Purse(unit=5, rest="drop", cap=99)
        found = least_loss(far, [-20, 5])
        self.assertTrue(loses_by_words(far, found))
        self.assertEqual(len(found), 8)
        slow = Purse(unit=2, rest="drop", cap=19)
        found = least_loss(slow, [-19, 2])
        self.assertTrue(loses_by_words(slow, found))
        self.assertEqual(len(found), 12)


if __name__ == "__main__":
    unittest.main()
