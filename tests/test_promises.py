"""Point 13: promises, their order and their texts."""

import unittest
from itertools import product

from duehouse.errors import Unknown
from duehouse.promises import Better, Between, Both, Fresh, NoLess, NoMore, Promise, promise_of
from tests.support import Case

NUMBERS = (-5, -1, 0, 1, 2, 7)
TRIPLES = list(product(NUMBERS, repeat=3))
WORDS = {
    "any": (Promise, lambda old, new, due: True),
    "fresh": (Fresh, lambda old, new, due: due == new),
    "noless": (NoLess, lambda old, new, due: due >= old),
    "nomore": (NoMore, lambda old, new, due: due <= old),
    "between": (Between, lambda old, new, due: min(old, new) <= due <= max(old, new)),
    "better": (Better, lambda old, new, due: due == max(old, new)),
}


def kept_by(promise):
    return {triple for triple in TRIPLES if promise(*triple)}


class PromisesTest(Case):
    def test_each_promise(self):
        for word, (kind, test) in WORDS.items():
            promise = kind()
            self.assertIsInstance(promise, Promise)
            for triple in TRIPLES:
                self.assertIs(bool(promise(*triple)), test(*triple))
            old, new, due = 3, 4, 4
            self.assertEqual(promise(old=old, new=new, due=due), test(old, new, due))
            self.assertEqual(str(promise), word)

    def test_bases(self):
        for kind in (Fresh, NoLess, NoMore, Between, Better, Both):
            self.assertEqual(kind.__bases__, (Promise,))
            for name in ("__call__", "__and__", "__le__", "__str__"):
                self.assertIn(name, vars(kind))

    def test_all_boths(self):
        for (word, (kind, test)), (other_word, (other, other_test)) in product(WORDS.items(), repeat=2):
            for both in (kind() & other(), Both(kind(), other())):
                self.assertIs(both.__class__, Both)
                self.assertEqual(str(both), f"{word}+{other_word}")
                for triple in TRIPLES:
                    self.assertEqual(both(*triple), test(*triple) and other_test(*triple))

    def test_boths_of_boths(self):
        left = (NoLess() & Fresh()) & NoMore()
        right = NoLess() & (Fresh() & NoMore())
        for both in (left, right):
            self.assertEqual(str(both), "noless+fresh+nomore")
            self.assertEqual(kept_by(both), {(o, n, d) for o, n, d in TRIPLES if o == n == d})
        four = (Promise() & Better()) & (Between() & NoMore())
        self.assertEqual(str(four), "any+better+between+nomore")
        self.assertEqual(kept_by(four), {(o, n, d) for o, n, d in TRIPLES if d == o >= n})

    def test_order(self):
        promises = [kind() for kind, _ in WORDS.values()]
        promises += [one & other for one, other in product(promises, repeat=2)]
        kept = [kept_by(promise) for promise in promises]
        for (one, first), (two, second) in product(zip(promises, kept), repeat=2):
            self.assertEqual(one <= two, first <= second)
            self.assertEqual(two >= one, first <= second)

    def test_order_examples(self):
        self.assertTrue(Better() <= NoLess())
        self.assertTrue(Better() <= Between())
        self.assertTrue(Fresh() <= Between())
        self.assertFalse(Fresh() <= NoLess())
        self.assertFalse(Between() <= Fresh())
        self.assertTrue((NoLess() & NoMore()) <= Between())
        self.assertFalse(Promise() <= Between())
        self.assertTrue((Between() & NoLess() & NoMore()) <= (NoLess() & NoMore()))


class TextTest(Case):
    def test_one_word(self):
        for word, (kind, _) in WORDS.items():
            self.assertIs(promise_of(word).__class__, kind)

    def test_several_words(self):
        for words in product(WORDS, repeat=3):
            text = "+".join(words)
            promise = promise_of(text)
            self.assertEqual(str(promise), text)
            self.assertIs(promise.__class__, Both)
            wanted = WORDS[words[0]][0]() & WORDS[words[1]][0]() & WORDS[words[2]][0]()
            self.assertEqual(kept_by(promise), kept_by(wanted))

    def test_joined_from_the_left(self):
        promise = promise_of("fresh+noless+better")
        self.assertIs(promise.second.__class__, Better)
        self.assertEqual(str(promise.first), "fresh+noless")

    def test_long_texts(self):
        text = "+".join(["noless", "nomore"] * 2000)
        promise = promise_of(text)
        self.assertEqual(str(promise), text)
        self.assertTrue(promise(1, 5, 1))
        self.assertFalse(promise(1, 5, 2))
        self.assertTrue(promise <= Between())

    def test_unknown_words(self):
        for text, word in [
            ("", ""), ("+", ""), ("fresh+", ""), ("+fresh", ""), ("fresh++better", ""), ("Fresh", "Fresh"),
            ("fresh better", "fresh better"), ("fresh+bad+worse", "bad"), ("both", "both"), (" any", " any"),
            ("any+any+fresh ", "fresh "), ("promise", "promise"), ("none+", "none"),
        ]:
            with self.subTest(text):
                self.refused(Unknown, {"name": word}, promise_of, text)


if __name__ == "__main__":
    unittest.main()
