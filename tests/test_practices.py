"""Point 17: practices, their marks and their texts."""

import unittest
from itertools import combinations, permutations, product

from duehouse.errors import BadMark
from duehouse.practices import Practice
from tests.support import Case, got, put, seeded

FULL = {"again": None, "amends": "back", "heeds": "all", "stands": "last", "term": None, "pays": None, "asks": None}
WEAK = {
    "again": [1, 2, 3], "amends": ["ahead"], "heeds": ["own"], "stands": ["come"],
    "term": [0, 1, 2, 3], "pays": [0, 1, 2, 3], "asks": [0, 1, 2, 3],
}
WORDS = list(FULL)
NO_WORDS = ["", "again ", "Again", "agains", "hears", "unit", None, True, 0, 1, b"again", [], ("again",), {}]
NO_VALUES = [True, False, -1, 4, 10, 1.0, "", "none", "None", "1", "0", "Back", "back ", b"back", [], (1,), [1], {}]


def marks_of(practice):
    return {word: practice[word] for word in WORDS}


def all_practices():
    """All practices that there are, as dicts."""
    for values in product(*[[FULL[word], *WEAK[word]] for word in WORDS]):
        yield dict(zip(WORDS, values))


def values_that_are_none(word):
    """Values near those of the word, and those of other words."""
    others = [value for other in WORDS for value in [FULL[other], *WEAK[other]]]
    fine = [FULL[word], *WEAK[word]]
    for value in [*NO_VALUES, *others]:
        if not any(value == good and value.__class__ is good.__class__ for good in fine):
            yield value


class MarksTest(Case):
    def test_full_by_itself(self):
        self.assertEqual(marks_of(Practice()), FULL)
        self.assertEqual(list(Practice()), WORDS)
        self.assertEqual(list(Practice(asks=0, again=3)), WORDS)

    def test_each_value_of_each_word(self):
        for word in WORDS:
            for value in [FULL[word], *WEAK[word]]:
                for practice in [Practice(**{word: value}), Practice()]:
                    practice[word] = value
                    self.assertEqual(marks_of(practice), {**FULL, word: value})
                    self.assertIs(practice[word].__class__, value.__class__)

    def test_all_at_once(self):
        practice = Practice(again=1, amends="ahead", heeds="own", stands="come", term=0, pays=2, asks=3)
        self.assertEqual([practice[word] for word in practice], [1, "ahead", "own", "come", 0, 2, 3])

    def test_marks_stand_by_keyword_only(self):
        with self.assertRaises(TypeError):
            Practice(1)

    def test_values_that_are_none(self):
        for word in WORDS:
            for bad in values_that_are_none(word):
                with self.subTest((word, bad)):
                    self.refused(BadMark, {"word": word, "value": bad}, Practice, **{word: bad})
                    practice = Practice(again=2, asks=1)
                    self.refused(BadMark, {"word": word, "value": bad}, put, practice, word, bad)
                    self.assertEqual(marks_of(practice), {**FULL, "again": 2, "asks": 1})

    def test_words_that_are_none(self):
        for bad in NO_WORDS:
            with self.subTest(bad):
                practice = Practice(again=2)
                self.refused(BadMark, {"word": bad, "value": None}, got, practice, bad)
                self.refused(BadMark, {"word": bad, "value": 1}, put, practice, bad, 1)
                self.refused(BadMark, {"word": bad, "value": True}, put, practice, bad, True)
                self.refused(BadMark, {"word": bad, "value": None}, practice.made_full, bad)
                self.assertEqual(marks_of(practice), {**FULL, "again": 2})

    def test_the_first_one_is_refused(self):
        for first, second in combinations(WORDS, 2):
            self.refused(BadMark, {"word": first, "value": 9}, Practice, **{second: 8, first: 9})
        self.refused(BadMark, {"word": "again", "value": False}, Practice, **{word: False for word in reversed(WORDS)})

    def test_weak(self):
        self.assertEqual(Practice().weak(), [])
        for size in range(1, 8):
            for words in combinations(WORDS, size):
                practice = Practice(**{word: WEAK[word][-1] for word in reversed(words)})
                self.assertEqual(practice.weak(), list(words))
        practice = Practice(term=0)
        practice.weak().clear()
        self.assertEqual(practice.weak(), ["term"])
        practice["term"] = None
        self.assertEqual(practice.weak(), [])

    def test_made_full(self):
        told = dict(again=3, amends="ahead", heeds="own", stands="come", term=0, pays=0, asks=0)
        practice = Practice(**told)
        for word in WORDS:
            made = practice.made_full(word)
            self.assertEqual(marks_of(made), {**told, word: FULL[word]})
            self.assertEqual(made.made_full(word), made)
            self.assertIsNot(made.made_full(word), made)
        self.assertEqual(marks_of(practice), told)
        full = Practice()
        made = full.made_full("term")
        made["term"] = 1
        self.assertIsNone(full["term"])

    def test_copies_share_nothing(self):
        practice = Practice(again=1, heeds="own")
        twin = practice.copy()
        self.assertIsInstance(twin, Practice)
        self.assertEqual(marks_of(twin), marks_of(practice))
        twin["again"] = 2
        practice["heeds"] = "all"
        self.assertEqual(marks_of(twin), {**FULL, "again": 2, "heeds": "own"})
        self.assertEqual(marks_of(practice), {**FULL, "again": 1})


class OrderTest(Case):
    def test_equal(self):
        self.assertEqual(Practice(), Practice())
        self.assertEqual(Practice(pays=0, asks=0), Practice(asks=0, pays=0))
        self.assertNotEqual(Practice(pays=0), Practice(pays=1))
        self.assertNotEqual(Practice(pays=0), Practice(asks=0))
        self.assertNotEqual(Practice(pays=0), Practice())
        self.assertNotEqual(Practice(), "full")
        self.assertNotEqual(Practice(), FULL)

    def test_order_by_words(self):
        rnd = seeded(61)
        told = list(all_practices())
        met = set()
        for _ in range(3000):
            one = rnd.choice(told)
            two = dict(one) if rnd.random() < 0.3 else rnd.choice(told)
            for word in rnd.sample(WORDS, rnd.randint(0, 3)):
                two[word] = FULL[word]
            if rnd.random() < 0.5:
                one, two = two, one
            wished = all(one[word] == value for word, value in two.items() if value != FULL[word])
            self.assertIs(Practice(**one) <= Practice(**two), wished)
            self.assertIs(Practice(**one) == Practice(**two), one == two)
            met.add((wished, one == two))
        self.assertEqual(met, {(True, True), (True, False), (False, False)})

    def test_order_examples(self):
        self.assertTrue(Practice(term=0, pays=1) <= Practice(term=0))
        self.assertTrue(Practice(term=0) <= Practice())
        self.assertTrue(Practice() <= Practice())
        self.assertFalse(Practice() <= Practice(term=0))
        self.assertFalse(Practice(term=1) <= Practice(term=0))
        self.assertFalse(Practice(term=0) <= Practice(term=0, pays=1))


class TextTest(Case):
    def test_full(self):
        self.assertEqual(str(Practice()), "full")
        self.assertEqual(Practice.from_text("full"), Practice())
        self.assertIsInstance(Practice.from_text("full"), Practice)

    def test_examples(self):
        self.assertEqual(str(Practice(term=0, again=2)), "again=2 term=0")
        practice = Practice(again=1, amends="ahead", heeds="own", stands="come", term=0, pays=2, asks=3)
        self.assertEqual(str(practice), "again=1 amends=ahead heeds=own stands=come term=0 pays=2 asks=3")
        self.assertEqual(Practice.from_text("term=0 again=2"), Practice(again=2, term=0))
        self.assertIs(Practice.from_text("term=0")["term"].__class__, int)

    def test_all_practices(self):
        for told in all_practices():
            practice = Practice(**told)
            parts = [f"{word}={told[word]}" for word in WORDS if told[word] != FULL[word]]
            self.assertEqual(str(practice), " ".join(parts) if parts else "full")
            self.assertEqual(marks_of(Practice.from_text(str(practice))), told)

    def test_any_order(self):
        parts = ["again=3", "heeds=own", "pays=0", "asks=1"]
        for order in permutations(parts):
            self.assertEqual(str(Practice.from_text(" ".join(order))), " ".join(parts))

    def test_refused_texts(self):
        for text, word, value in [
            ("", "", ""),
            (" ", "", ""),
            ("again=1 ", "", ""),
            (" again=1", "", ""),
            ("again=1  term=0", "", ""),
            ("again=1 again=1", "again", "1"),
            ("again=1 term=0 again=2", "again", "2"),
            ("again=1 again=9", "again", "9"),
            ("again=1 again", "again", ""),
            ("again", "again", ""),
            ("again=", "again", ""),
            ("=", "", ""),
            ("=1", "", "1"),
            ("again=1=", "again", "1="),
            ("again=1=2", "again", "1=2"),
            ("again==1", "again", "=1"),
            ("again=0", "again", "0"),
            ("again=4", "again", "4"),
            ("again=01", "again", "01"),
            ("again=+1", "again", "+1"),
            ("again=-1", "again", "-1"),
            ("again=None", "again", "None"),
            ("again=True", "again", "True"),
            ("again=1.0", "again", "1.0"),
            ("term=00", "term", "00"),
            ("term=-0", "term", "-0"),
            ("term=", "term", ""),
            ("amends=back", "amends", "back"),
            ("heeds=all", "heeds", "all"),
            ("stands=last", "stands", "last"),
            ("amends=come", "amends", "come"),
            ("Again=1", "Again", "1"),
            ("hears=x", "hears", "x"),
            ("unit=1", "unit", "1"),
            ("again=1,term=0", "again", "1,term=0"),
            ("again=1\tterm=0", "again", "1\tterm=0"),
            ("again=1\n", "again", "1\n"),
            ("full full", "full", ""),
            ("full again=1", "full", ""),
            ("again=1 full", "full", ""),
            ("full=1", "full", "1"),
            ("full ", "full", ""),
            (" full", "", ""),
            ("Full", "Full", ""),
            ("again=9 term=9", "again", "9"),
            ("term=9 again=9", "term", "9"),
        ]:
            with self.subTest(text):
                self.refused(BadMark, {"word": word, "value": value}, Practice.from_text, text)


if __name__ == "__main__":
    unittest.main()
