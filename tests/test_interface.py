"""The names, arguments and methods of the interface, each in the file under which it is listed."""

import inspect
import unittest
from importlib import import_module

FUNCTIONS = {
    "sheets": [
        "additions(sheet, life, code, *, plain, first)",
        "first_apart(sheet, other, days, *, plain, first)",
        "spells(track)",
        "track_of(spells)",
    ],
    "comparing": [
        "parting(a, b)",
        "above(a, b)",
        "greatest_gap(a, b)",
        "remembers(rule)",
        "mixed_up(rule, days)",
        "lives(signs, days)",
    ],
    "promises": ["promise_of(text)"],
    "bridges": [
        "three_dues(book, old, new, life, day)",
        "keeps(book, old, new, promise, life, day)",
        "right_entries(book, old, new, promise)",
        "keeps_always(book, old, new, promise)",
        "unbridged(book, old, new, promise)",
    ],
}

PROMISE = ["__call__(self, old, new, due)", "__and__", "__le__", "__str__"]

CLASSES = {
    ("sheets", "Sheet"): [
        "__init__(self, entries=())", "__or__", "__ior__", "__contains__", "__len__", "__eq__", "__le__", "__iter__",
        "stands(self, number)", "top(self)", "sign_of(self, day)", "rule_of(self, day)",
        "life_of(self, days, plain)", "code_of(self, days, first)",
    ],
    ("rules", "Rule"): [
        "__init__(self, signs, rows)", "__call__(self, life)", "end(self, life)", "total(self, life)", "__getitem__",
        "__len__", "__iter__", "__eq__", "__le__", "__add__", "__sub__", "__neg__", "least(self)", "words(self)",
    ],
    ("kinds", "Paid"): ["__init__(self, sign, amount)"],
    ("kinds", "Flat"): ["__init__(self, signs, amounts)", "words(self)"],
    ("kinds", "Waiting"): ["__init__(self, signs, sign, wait, amount)", "words(self)"],
    ("kinds", "Upto"): ["__init__(self, signs, sign, most, amount)", "words(self)"],
    ("kinds", "Spell"): ["__init__(self, signs, sign, most, amount)", "words(self)"],
    ("kinds", "Once"): ["__init__(self, signs, sign, amount)", "words(self)"],
    ("kinds", "After"): ["__init__(self, signs, sign, other, amount)", "words(self)"],
    ("books", "Book"): [
        "__init__(self, rules)", "__iter__", "rule_named(self, name)", "__getitem__", "__setitem__", "copy(self)",
        "step(self, place, rule, sign)", "places(self, life, code)", "dues(self, life, code)",
    ],
    ("courses", "Course"): [
        "__init__(self, book, offices, charges=None)", "book_copy(self)", "charge(self, office, sign)", "turns(self)",
        "step(self, seat, rule, sign)", "seats(self, life, code)", "run(self, life, code)",
        "own(self, office, life, code)", "coming(self)", "like(self, office, seat, other)",
    ],
    ("promises", "Promise"): PROMISE,
    ("promises", "Fresh"): PROMISE,
    ("promises", "NoLess"): PROMISE,
    ("promises", "NoMore"): PROMISE,
    ("promises", "Between"): PROMISE,
    ("promises", "Better"): PROMISE,
    ("promises", "Both"): ["__init__(self, first, second)", *PROMISE],
}


class InterfaceTest(unittest.TestCase):
    def check(self, place, found, told):
        name, _, arguments = told.partition("(")
        self.assertTrue(inspect.isfunction(found), f"{place}: {told}")
        self.assertEqual(found.__name__, name)
        if arguments:
            self.assertEqual(f"{name}{inspect.signature(found)}", told)

    def test_functions(self):
        for module, functions in FUNCTIONS.items():
            held = vars(import_module(f"duehouse.{module}"))
            for told in functions:
                found = held[told.partition("(")[0]]
                self.check(module, found, told)
                self.assertEqual(found.__module__, f"duehouse.{module}")

    def test_classes(self):
        for (module, name), methods in CLASSES.items():
            found = vars(import_module(f"duehouse.{module}"))[name]
            self.assertTrue(inspect.isclass(found))
            self.assertEqual(found.__module__, f"duehouse.{module}")
            for told in methods:
                self.check(f"{module}.{name}", vars(found).get(told.partition("(")[0]), told)

    def test_lives_is_a_generator(self):
        self.assertTrue(inspect.isgeneratorfunction(import_module("duehouse.comparing").lives))


if __name__ == "__main__":
    unittest.main()
