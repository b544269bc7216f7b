"""Points 3 to 6: sheets, what they tell, and spells."""

import unittest
from itertools import combinations, permutations, product

from duehouse.errors import BadEntry, BadNumber, BadSpell, Clash, NoEntry
from duehouse.sheets import Sheet, additions, first_apart, spells, track_of
from tests.support import Case, seeded

BAD_ENTRIES = [
    (0, "sign", 0, "a"),
    (1000, "sign", 0, "a"),
    (-1, "rule", 0, "a"),
    (True, "sign", 0, "a"),
    (1.0, "sign", 0, "a"),
    ("a", "sign", 0, "a"),
    (None, "sign", 0, "a"),
    (1, "sign", -1, "a"),
    (1, "sign", 60, "a"),
    (1, "rule", 60, "a"),
    (1, "rule", -1, "a"),
    (1, "sign", True, "a"),
    (1, "sign", False, "a"),
    (1, "rule", False, "a"),
    (1, "sign", None, "a"),
    (1, "sign", "a", "a"),
    (1, "sign", 0, ""),
    (1, "sign", 0, "abcdefghi"),
    (1, "sign", 0, "A"),
    (1, "sign", 0, "a b"),
    (1, "sign", 0, "a1"),
    (1, "sign", 0, "a\n"),
    (1, "sign", 0, "\u00e4"),
    (1, "sign", 0, b"a"),
    (1, "sign", 0, None),
    (1, "sign", 0, 5),
    (1, "sign", 0, ("a",)),
    (1, "sign", 0, ["a"]),
    (1, "rule", 0, ""),
    (1, "rule", 0, "abcdefghi"),
    (1, "sign", 0),
    (1, "sign", 0, "a", "a"),
    (1, "rule", 0),
    (1, "rule", 0, "a", 0),
    (2, "void", 1, "a"),
    (2, "void"),
    (1, "void", 0),
    (1, "void", 1),
    (2, "void", 2),
    (2, "void", 3),
    (2, "void", 0),
    (2, "void", -1),
    (2, "void", True),
    (True, "void", 0),
    (2, "void", "a"),
    (1000, "void", 1),
    (1, "Sign", 0, "a"),
    (1, "signs", 0, "a"),
    (1, "", 0, "a"),
    (1, None, 0, "a"),
    (1, ["sign"], 0, "a"),
    (1, 2, 3),
    (1, "sign"),
    (1,),
    (),
    [1, "sign", 0, "a"],
    "sign",
    None,
    5,
    True,
    {},
]

GOOD_ENTRIES = [
    (1, "sign", 0, "a"),
    (999, "sign", 59, "abcdefgh"),
    (999, "rule", 59, "abcdefgh"),
    (1, "rule", 0, "z"),
    (2, "void", 1),
    (999, "void", 998),
    (999, "void", 1),
]


def stands_by_words(entries, number):
    """Point 4 as it is written: no standing "void" entry withdraws the entry."""
    for entry in entries:
        if entry[1] == "void" and entry[2] == number and stands_by_words(entries, entry[0]):
            return False
    return True


def sign_by_words(entries, day):
    told = [e for e in entries if e[1] == "sign" and e[2] == day and stands_by_words(entries, e[0])]
    return max(told)[3] if told else None


def rule_by_words(entries, day):
    told = [(e[2], e[0], e[3]) for e in entries if e[1] == "rule" and e[2] <= day and stands_by_words(entries, e[0])]
    return max(told)[2] if told else None


def made_entries(rnd, many, days):
    """Entries with different numbers, with gaps between them, in any order."""
    entries = []
    for number in rnd.sample(range(1, 3 * many), many):
        form = rnd.choice(["sign", "rule", "void", "void"])
        if form == "void" and number > 1:
            entries.append((number, "void", rnd.randint(max(1, number - 6), number - 1)))
        else:
            entries.append((number, "sign" if form == "void" else form, rnd.randrange(days), rnd.choice("abc")))
    return entries


class EntriesTest(Case):
    def test_bad_entries(self):
        for entry in BAD_ENTRIES:
            with self.subTest(entry):
                error = self.refused(BadEntry, {"entry": entry}, Sheet, [entry])
                self.assertIs(error.entry, entry)
                self.refused(BadEntry, {"entry": entry}, Sheet, ((3, "sign", 0, "a"), entry))

    def test_good_entries(self):
        for entry in GOOD_ENTRIES:
            with self.subTest(entry):
                self.assertEqual(list(Sheet([entry])), [entry])
                self.assertEqual(list(Sheet((entry,))), [entry])

    def test_first_bad_entry_comes_ahead_of_clash(self):
        entries = [(1, "sign", 0, "a"), (1, "sign", 0, "b"), (2, "void", 2), (0, "sign", 0, "a")]
        self.refused(BadEntry, {"entry": (2, "void", 2)}, Sheet, entries)

    def test_clash_tells_the_least_number(self):
        entries = [
            (5, "sign", 0, "a"),
            (5, "sign", 0, "b"),
            (3, "rule", 1, "a"),
            (9, "void", 1),
            (3, "sign", 1, "a"),
            (9, "void", 2),
        ]
        for order in permutations(entries):
            self.refused(Clash, {"number": 3}, Sheet, list(order))

    def test_one_clash(self):
        for other in [(2, "sign", 0, "b"), (2, "sign", 1, "a"), (2, "rule", 0, "a"), (2, "void", 1)]:
            for entries in ([(2, "sign", 0, "a"), other], [other, (1, "sign", 0, "a"), (2, "sign", 0, "a")]):
                self.refused(Clash, {"number": 2}, Sheet, entries)
            self.refused(Clash, {"number": 2}, lambda: Sheet([(2, "sign", 0, "a")]) | Sheet([other]))

    def test_equal_entries_count_once(self):
        sheet = Sheet([(2, "sign", 0, "a"), (1, "rule", 0, "r"), (2, "sign", 0, "a")])
        self.assertEqual(len(sheet), 2)
        self.assertEqual(list(sheet), [(1, "rule", 0, "r"), (2, "sign", 0, "a")])


class SheetTest(Case):
    def test_empty(self):
        sheet = Sheet()
        self.assertEqual(len(sheet), 0)
        self.assertEqual(list(sheet), [])
        self.assertEqual(sheet.top(), 0)
        self.assertIsNone(sheet.sign_of(0))
        self.assertIsNone(sheet.rule_of(59))
        self.assertEqual(sheet.life_of(2, "a"), ("a", "a"))
        self.assertEqual(sheet.code_of(2, "r"), ("r", "r"))
        self.assertEqual(sheet, Sheet([]))
        self.assertEqual(sheet, Sheet(()))

    def test_iterates_by_number(self):
        entries = [(30, "sign", 0, "a"), (4, "sign", 0, "b"), (999, "void", 4), (100, "rule", 5, "r")]
        self.assertEqual(list(Sheet(entries)), sorted(entries))
        self.assertEqual(Sheet(entries).top(), 999)
        self.assertEqual(Sheet(entries[:2]).top(), 30)

    def test_contains(self):
        sheet = Sheet([(1, "sign", 1, "a"), (2, "void", 1)])
        self.assertIn((1, "sign", 1, "a"), sheet)
        self.assertIn((2, "void", 1), sheet)
        for other in [(1, "sign", 1, "b"), (True, "sign", 1, "a"), (1, "sign", True, "a"), (2, "void", True)]:
            self.assertNotIn(other, sheet)
        for other in [(3, "void", 1), (1, "rule", 1, "a"), 1, None, "sign", [1, "sign", 1, "a"], ([],)]:
            self.assertNotIn(other, sheet)

    def test_equality_and_part(self):
        entries = [(1, "sign", 0, "a"), (2, "rule", 0, "r"), (3, "void", 1)]
        for many in range(4):
            for part in combinations(entries, many):
                for size in range(4):
                    for other in combinations(entries, size):
                        left, right = Sheet(list(part)), Sheet(other)
                        self.assertEqual(left == right, set(part) == set(other))
                        self.assertEqual(left != right, set(part) != set(other))
                        self.assertEqual(left <= right, set(part) <= set(other))
        self.assertFalse(Sheet([(1, "sign", 0, "a")]) == Sheet([(1, "sign", 0, "b")]))
        self.assertFalse(Sheet([(1, "sign", 0, "a")]) <= Sheet([(1, "sign", 0, "b"), (2, "void", 1)]))
        self.assertFalse(Sheet() == [])
        self.assertTrue(Sheet() != ())

    def test_join(self):
        left = Sheet([(1, "sign", 0, "a"), (4, "rule", 2, "s")])
        right = Sheet([(4, "rule", 2, "s"), (2, "void", 1)])
        both = left | right
        self.assertEqual(list(both), [(1, "sign", 0, "a"), (2, "void", 1), (4, "rule", 2, "s")])
        self.assertEqual(both, right | left)
        self.assertEqual(len(left), 2)
        self.assertEqual(len(right), 2)
        self.assertFalse(both.stands(1))
        self.assertTrue(left.stands(1))

    def test_join_in_place(self):
        left = Sheet([(1, "sign", 0, "a")])
        same = left
        right = Sheet([(2, "void", 1), (3, "rule", 0, "r")])
        left |= right
        self.assertIs(left, same)
        self.assertEqual(list(left), [(1, "sign", 0, "a"), (2, "void", 1), (3, "rule", 0, "r")])
        self.assertFalse(left.stands(1))
        self.assertIsNone(left.sign_of(0))
        self.assertEqual(left.rule_of(0), "r")
        self.assertEqual(left.life_of(1, "p"), ("p",))
        self.assertEqual(left.code_of(1, "f"), ("r",))
        self.assertEqual(left.top(), 3)
        self.assertEqual(len(right), 2)
        left |= left
        self.assertEqual(len(left), 3)

    def test_later_changes_do_not_show(self):
        left = Sheet([(1, "sign", 0, "a")])
        right = Sheet([(2, "sign", 0, "b")])
        joined = Sheet()
        joined |= left
        both = left | right
        left |= right
        self.assertEqual(list(joined), [(1, "sign", 0, "a")])
        self.assertEqual(joined.sign_of(0), "a")
        right |= Sheet([(3, "void", 2)])
        self.assertEqual(list(left), [(1, "sign", 0, "a"), (2, "sign", 0, "b")])
        self.assertEqual(left.sign_of(0), "b")
        self.assertTrue(left.stands(2))
        both |= Sheet([(4, "void", 1)])
        self.assertEqual(len(left), 2)
        self.assertEqual(list(right), [(2, "sign", 0, "b"), (3, "void", 2)])

    def test_refused_join_changes_nothing(self):
        left = Sheet([(1, "sign", 0, "a"), (2, "rule", 0, "r"), (7, "void", 2)])
        right = Sheet([(3, "void", 1), (7, "void", 1), (2, "rule", 1, "r")])
        before = list(left), left.life_of(3, "p"), left.code_of(3, "f"), left.top()

        def join_in_place():
            sheet = left
            sheet |= right

        self.refused(Clash, {"number": 2}, join_in_place)
        self.refused(Clash, {"number": 2}, lambda: left | right)
        self.refused(Clash, {"number": 2}, lambda: right | left)
        self.assertEqual((list(left), left.life_of(3, "p"), left.code_of(3, "f"), left.top()), before)
        self.assertTrue(left.stands(1))
        self.assertEqual(len(right), 3)
        self.refused(NoEntry, {"number": 3}, left.stands, 3)

    def test_passed_and_returned_lists_are_copies(self):
        entries = [(1, "sign", 0, "a"), (2, "rule", 0, "r")]
        sheet = Sheet(entries)
        entries.append((3, "void", 1))
        entries[0] = (1, "sign", 0, "b")
        self.assertEqual(list(sheet), [(1, "sign", 0, "a"), (2, "rule", 0, "r")])
        given = list(sheet)
        given.clear()
        self.assertEqual(len(sheet), 2)
        told = [(2, "void", 1), (1, "sign", 0, "a")]
        Sheet(told)
        self.assertEqual(told, [(2, "void", 1), (1, "sign", 0, "a")])

    def test_stands_raises(self):
        sheet = Sheet([(1, "sign", 0, "a"), (5, "void", 1)])
        for number in [2, 0, -1, 6, 1000, True, None, "a", (1,)]:
            self.refused(NoEntry, {"number": number}, sheet.stands, number)
        number = []
        self.assertIs(self.refused(NoEntry, {"number": number}, sheet.stands, number).number, number)

    def test_days_out_of_range(self):
        sheet = Sheet([(1, "sign", 0, "a")])
        for days in [-1, 61, 1000, True, False, None, "a", 1.0]:
            self.refused(BadNumber, {"name": "days"}, sheet.life_of, days, "a")
            self.refused(BadNumber, {"name": "days"}, sheet.code_of, days, "r")
            self.refused(BadNumber, {"name": "days"}, first_apart, sheet, sheet, days, plain="a", first="r")
        self.assertEqual(sheet.life_of(0, "b"), ())
        self.assertEqual(sheet.code_of(0, "b"), ())
        self.assertEqual(sheet.life_of(60, "b"), ("a",) + 59 * ("b",))
        self.assertEqual(sheet.code_of(60, "b"), 60 * ("b",))
        self.assertIsNone(first_apart(sheet, sheet, 0, plain="a", first="r"))


class ToldTest(Case):
    def test_greatest_number_counts(self):
        entries = [(1, "sign", 3, "a"), (9, "sign", 3, "b"), (4, "sign", 3, "c")]
        for order in permutations(entries):
            self.assertEqual(Sheet(order).sign_of(3), "b")
            self.assertIsNone(Sheet(order).sign_of(2))
            self.assertIsNone(Sheet(order).sign_of(4))

    def test_greatest_day_counts_ahead_of_number(self):
        entries = [(9, "rule", 1, "a"), (2, "rule", 3, "b"), (5, "rule", 3, "c"), (1, "rule", 59, "d")]
        for order in permutations(entries):
            sheet = Sheet(order)
            told = [sheet.rule_of(day) for day in range(60)]
            self.assertEqual(told, [None] + 2 * ["a"] + 56 * ["c"] + ["d"])
            self.assertEqual(sheet.code_of(60, "f"), ("f", "a", "a") + 56 * ("c",) + ("d",))
            self.assertEqual(sheet.code_of(4, "f"), ("f", "a", "a", "c"))

    def test_withdrawn_void_withdraws_nothing(self):
        entries = [(1, "sign", 0, "a")]
        for number in range(2, 40):
            entries.append((number, "void", number - 1))
            sheet = Sheet(entries)
            self.assertEqual(sheet.stands(1), number % 2 == 1)
            self.assertEqual(sheet.sign_of(0), "a" if number % 2 == 1 else None)
            for other in range(1, number + 1):
                self.assertEqual(sheet.stands(other), (number - other) % 2 == 0)

    def test_longest_chain(self):
        entries = [(1, "rule", 59, "a")] + [(number, "void", number - 1) for number in range(2, 1000)]
        sheet = Sheet(entries)
        self.assertTrue(sheet.stands(1))
        self.assertFalse(sheet.stands(2))
        self.assertTrue(sheet.stands(999))
        self.assertEqual(sheet.rule_of(59), "a")
        self.assertTrue(Sheet(entries[:870]).stands(870))
        self.assertFalse(Sheet(entries[:870]).stands(1))
        self.assertIsNone(Sheet(entries[:870]).rule_of(59))

    def test_several_withdraw_one(self):
        entries = [(1, "sign", 0, "a"), (2, "void", 1), (3, "void", 1), (4, "void", 2)]
        self.assertFalse(Sheet(entries).stands(1))
        self.assertTrue(Sheet(entries + [(5, "void", 3)]).stands(1))

    def test_entry_put_in_behind_those_that_withdraw_it(self):
        sheet = Sheet([(5, "void", 2), (4, "void", 3)])
        self.assertTrue(sheet.stands(5))
        sheet |= Sheet([(2, "sign", 0, "a")])
        self.assertFalse(sheet.stands(2))
        self.assertIsNone(sheet.sign_of(0))
        sheet |= Sheet([(3, "sign", 0, "b")])
        self.assertIsNone(sheet.sign_of(0))
        sheet |= Sheet([(6, "void", 5)])
        self.assertEqual(sheet.sign_of(0), "a")
        sheet |= Sheet([(9, "void", 6)])
        self.assertIsNone(sheet.sign_of(0))

    def test_void_of_an_entry_that_is_not_there(self):
        sheet = Sheet([(9, "void", 4), (5, "sign", 0, "a")])
        self.assertEqual(sheet.sign_of(0), "a")
        self.assertTrue(sheet.stands(9))

    def test_withdrawn_entries_count_no_more(self):
        sheet = Sheet([(1, "sign", 0, "a"), (2, "sign", 0, "b"), (3, "rule", 0, "r"), (4, "rule", 2, "s")])
        self.assertEqual((sheet.sign_of(0), sheet.rule_of(5)), ("b", "s"))
        sheet |= Sheet([(5, "void", 2), (6, "void", 4)])
        self.assertEqual((sheet.sign_of(0), sheet.rule_of(5)), ("a", "r"))

    def test_made_up_sheets_by_the_words(self):
        rnd = seeded(4)
        for _ in range(60):
            days = rnd.choice([1, 3, 6, 60])
            entries = made_entries(rnd, rnd.randint(1, 25), days)
            sheet = Sheet(entries)
            for entry in entries:
                self.assertEqual(sheet.stands(entry[0]), stands_by_words(entries, entry[0]))
            for day in range(days):
                self.assertEqual(sheet.sign_of(day), sign_by_words(entries, day))
                self.assertEqual(sheet.rule_of(day), rule_by_words(entries, day))
            life = tuple(sign_by_words(entries, day) or "p" for day in range(days))
            code = tuple(rule_by_words(entries, day) or "f" for day in range(days))
            self.assertEqual(sheet.life_of(days, "p"), life)
            self.assertEqual(sheet.code_of(days, "f"), code)

    def test_order_and_joining_do_not_matter(self):
        rnd = seeded(5)
        for _ in range(30):
            entries = made_entries(rnd, 12, 4)
            whole = Sheet(entries)
            shuffled = entries + rnd.sample(entries, 6)
            rnd.shuffle(shuffled)
            pieces = [Sheet([entry]) for entry in shuffled]
            joined, grown = Sheet(), Sheet()
            for piece in pieces:
                joined = joined | piece
                grown |= piece
            cut = rnd.randrange(12)
            halves = Sheet(entries[cut:]) | Sheet(entries[:cut])
            for other in [Sheet(shuffled), Sheet(tuple(shuffled)), joined, grown, halves]:
                self.assertEqual(other, whole)
                self.assertEqual(list(other), list(whole))
                self.assertEqual(other.life_of(4, "p"), whole.life_of(4, "p"))
                self.assertEqual(other.code_of(4, "f"), whole.code_of(4, "f"))
                self.assertEqual([other.stands(e[0]) for e in entries], [whole.stands(e[0]) for e in entries])


class FirstApartTest(Case):
    def test_signs_and_rules(self):
        plain = Sheet()
        sign = Sheet([(1, "sign", 3, "b")])
        rule = Sheet([(1, "rule", 2, "s")])
        told = Sheet([(1, "sign", 3, "a"), (2, "rule", 0, "r")])
        self.assertIsNone(first_apart(plain, told, 60, plain="a", first="r"))
        self.assertEqual(first_apart(plain, told, 60, plain="b", first="r"), 3)
        self.assertEqual(first_apart(plain, told, 60, plain="a", first="s"), 0)
        self.assertEqual(first_apart(plain, sign, 4, plain="a", first="r"), 3)
        self.assertIsNone(first_apart(plain, sign, 3, plain="a", first="r"))
        self.assertEqual(first_apart(sign, rule, 60, plain="a", first="r"), 2)
        self.assertEqual(first_apart(rule, sign, 60, plain="a", first="s"), 3)
        self.assertIsNone(first_apart(rule, plain, 2, plain="a", first="r"))

    def test_made_up(self):
        rnd = seeded(6)
        for _ in range(100):
            one, two = Sheet(made_entries(rnd, 5, 5)), Sheet(made_entries(rnd, 5, 5))
            days = rnd.randint(0, 6)
            wanted = None
            for day in reversed(range(days)):
                signs = [s.sign_of(day) or "a" for s in (one, two)]
                rules = [s.rule_of(day) or "b" for s in (one, two)]
                if signs[0] != signs[1] or rules[0] != rules[1]:
                    wanted = day
            self.assertEqual(first_apart(one, two, days, plain="a", first="b"), wanted)


def fewest(sheet, life, code, plain, first):
    """How few "sign" and "rule" entries do, by trying all."""
    days = max(len(life), len(code))
    wished = [(form, day, name) for form in ("sign", "rule") for day in range(days) for name in "ab"]
    for many in range(2 * days + 1):
        for part in combinations(wished, many):
            top = sheet.top() + 1
            other = sheet | Sheet([(top + k, *row) for k, row in enumerate(part)])
            if other.life_of(len(life), plain) == life and other.code_of(len(code), first) == code:
                return many
    return None


class AdditionsTest(Case):
    def check(self, sheet, life, code, plain, first):
        before = list(sheet)
        added = additions(sheet, life, code, plain=plain, first=first)
        self.assertIsInstance(added, list)
        self.assertEqual(list(sheet), before)
        top = sheet.top()
        self.assertEqual([entry[0] for entry in added], list(range(top + 1, top + 1 + len(added))))
        forms = [(entry[1] == "rule", entry[2]) for entry in added]
        self.assertEqual(forms, sorted(set(forms)))
        self.assertLessEqual({entry[1] for entry in added}, {"sign", "rule"})
        behind = sheet | Sheet(added)
        self.assertEqual(behind.life_of(min(60, len(life)), plain), tuple(life))
        self.assertEqual(behind.code_of(min(60, len(code)), first), tuple(code))
        return added

    def test_examples(self):
        sheet = Sheet([(7, "sign", 1, "b"), (9, "rule", 2, "s")])
        self.assertEqual(additions(sheet, (), (), plain="a", first="r"), [])
        self.assertEqual(additions(Sheet(), (), (), plain="a", first="r"), [])
        self.assertEqual(additions(sheet, ("a", "b"), ("r", "r", "s"), plain="a", first="r"), [])
        self.assertEqual(
            self.check(sheet, ("a", "a", "b"), ("r", "r", "r", "r"), "a", "r"),
            [(10, "sign", 1, "a"), (11, "sign", 2, "b"), (12, "rule", 2, "r")],
        )
        self.assertEqual(
            self.check(sheet, (), ("s", "r", "s", "s", "r"), "a", "r"),
            [(10, "rule", 0, "s"), (11, "rule", 1, "r"), (12, "rule", 4, "r")],
        )
        self.assertEqual(self.check(Sheet(), ("b",), ("s", "s"), "a", "r"), [(1, "sign", 0, "b"), (2, "rule", 0, "s")])

    def test_plain_and_first_matter(self):
        self.assertEqual(self.check(Sheet(), ("a", "b"), ("r", "s"), "b", "s"), [
            (1, "sign", 0, "a"), (2, "rule", 0, "r"), (3, "rule", 1, "s"),
        ])

    def test_needless_rule_entry_is_no_help(self):
        sheet = Sheet([(1, "rule", 0, "r"), (2, "rule", 1, "r"), (3, "rule", 3, "s"), (4, "void", 2)])
        self.assertEqual(self.check(sheet, (), ("s", "s", "s", "s"), "a", "r"), [(5, "rule", 0, "s")])
        sheet = Sheet([(1, "rule", 0, "r"), (2, "rule", 1, "r"), (3, "rule", 3, "s")])
        self.assertEqual(self.check(sheet, (), ("s", "s", "s", "s"), "a", "r"), [(4, "rule", 0, "s"), (5, "rule", 1, "s")])

    def test_sixty_days(self):
        life = tuple("ab"[day % 2] for day in range(60))
        code = tuple("rs"[day % 2] for day in range(60))
        self.assertEqual(len(self.check(Sheet(), life, code, "a", "r")), 30 + 59)
        self.assertEqual(len(self.check(Sheet(), life, code, "b", "s")), 30 + 60)
        self.assertEqual(len(self.check(Sheet([(870, "void", 1)]), life, (), "c", "s")), 60)
        self.assertEqual(self.check(Sheet([(870, "void", 1)]), (), code, "c", "s")[-1], (930, "rule", 59, "s"))
        self.assertEqual(self.check(Sheet(), ("a",) * 59 + ("b",), ("r",), "a", "r"), [(1, "sign", 59, "b")])

    def test_lists_do_too(self):
        life, code = ["a", "b"], ["r"]
        self.assertEqual(self.check(Sheet(), life, code, "a", "r"), [(1, "sign", 1, "b")])
        self.assertEqual((life, code), (["a", "b"], ["r"]))

    def test_fewest_by_trying_all(self):
        rnd = seeded(7)
        for _ in range(60):
            entries = made_entries(rnd, rnd.randint(1, 5), 3)
            sheet = Sheet([e if e[1] == "void" else (*e[:3], e[3].replace("c", "a")) for e in entries])
            life = tuple(rnd.choice("ab") for _ in range(rnd.randint(0, 2)))
            code = tuple(rnd.choice("ab") for _ in range(rnd.randint(0, 3)))
            added = self.check(sheet, life, code, "a", "a")
            self.assertEqual(len(added), fewest(sheet, life, code, "a", "a"))

    def test_no_voids_are_shorter(self):
        for told in product("ab", repeat=3):
            sheet = Sheet([(day + 1, "rule", day, told[day]) for day in range(3)])
            for code in product("ab", repeat=3):
                many = len(self.check(sheet, (), code, "a", "a"))
                wished = [("rule", day, name) for day in range(3) for name in "ab"]
                wished += [("void", number) for number in (1, 2, 3)]
                for fewer in range(many):
                    for part in combinations(wished, fewer):
                        other = sheet | Sheet([(4 + k, *row) for k, row in enumerate(part)])
                        self.assertNotEqual(other.code_of(3, "a"), code)


class SpellsTest(Case):
    def test_examples(self):
        self.assertEqual(spells(()), [])
        self.assertEqual(spells(("a",)), [(0, 0, "a")])
        self.assertEqual(spells(("a", "a", "b", "a")), [(0, 1, "a"), (2, 2, "b"), (3, 3, "a")])
        self.assertEqual(spells(("b", "b", "b")), [(0, 2, "b")])
        self.assertEqual(track_of([]), ())
        self.assertEqual(track_of([(0, 1, "a"), (2, 2, "a"), (3, 3, "b")]), ("a", "a", "a", "b"))
        self.assertEqual(track_of(((0, 0, "a"),)), ("a",))

    def test_there_and_back(self):
        for days in range(7):
            for track in product("ab", repeat=days):
                found = spells(track)
                self.assertIsInstance(found, list)
                self.assertEqual(track_of(found), track)
                self.assertIsInstance(track_of(found), tuple)
                for left, right in zip(found, found[1:]):
                    self.assertNotEqual(left[2], right[2])

    def test_bent_spells(self):
        good = (0, 1, "a")
        for spell in [
            (1, 2, "b"), (3, 3, "b"), (2, 1, "b"), (2, 0, "b"), (0, 1, "b"), (-1, 2, "b"), (2, True, "b"),
            (2, None, "b"), (None, 2, "b"), (2, 2), (2, 2, "b", "b"), [2, 2, "b"], (), None,
        ]:
            with self.subTest(spell):
                error = self.refused(BadSpell, {"spell": spell}, track_of, [good, spell, (9, 9, "a")])
                self.assertIs(error.spell, spell)
        for spell in [(1, 1, "a"), (-1, 0, "a"), (0, -1, "a"), (False, 0, "a"), (0, False, "a")]:
            self.refused(BadSpell, {"spell": spell}, track_of, [spell])
        told = [(0, 0, "a"), (2, 2, "b")]
        self.refused(BadSpell, {"spell": (2, 2, "b")}, track_of, told)
        self.assertEqual(told, [(0, 0, "a"), (2, 2, "b")])


if __name__ == "__main__":
    unittest.main()
