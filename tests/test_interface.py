"""The names, arguments and methods of the interface, each in the file under which it is listed."""

import inspect
import unittest
from importlib import import_module

FUNCTIONS = {
    "sheets": [
        "additions(sheet, life, code, *, plain, first)",
        "first_apart(sheet, other, days, *, plain, first)",
        "spells(track)",
        "track_of(spells)",
    ],
    "comparing": [
        "parting(a, b)",
        "above(a, b)",
        "greatest_gap(a, b)",
        "remembers(rule)",
        "mixed_up(rule, days)",
        "lives(signs, days)",
    ],
    "promises": ["promise_of(text)"],
    "bridges": [
        "three_dues(book, old, new, life, day)",
        "keeps(book, old, new, promise, life, day)",
        "right_entries(book, old, new, promise)",
        "keeps_always(book, old, new, promise)",
        "unbridged(book, old, new, promise)",
    ],
    "healing": [
        "wrong_states(book, old, new, promise)",
        "healed(book, old, new, promise)",
        "least_kept(book, old, new, promise)",
        "many_tables(book, old, new, promise)",
        "told_apart(book, old, new)",
    ],
    "purses": [
        "set_marks(purse, *, unit, cap)",
        "paid_while_held(purse, amounts)",
        "loses(purse, steps)",
        "least_loss(purse, amounts)",
    ],
    "clearing": ["cleared(balances)", "made(balances, transfers)"],
    "terms": [
        "matters(course, office, life, code, doubtful)",
        "cost(course, office, life, code, doubtful, day)",
    ],
    "ways": ["deliveries(ways, office)"],
    "spreads": [
        "sign_spread(course, office)",
        "rule_spread(course, office, most=None)",
        "sign_difference(course, office, *, least=0, within=None, wait=0, foreign=False)",
        "rule_difference(course, office, *, most=None, least=0, within=None)",
        "endless(course, office, kind)",
    ],
    "likeness": ["likeness_of(book)", "course_likeness(course)", "unlike(book, likeness)"],
    "sessions": ["tried(session, events)", "ends_wrong(house, events)"],
    "harms": [
        "sign_age(house, office)", "rule_age(house, office)", "marks_of(house)", "is_harmful(house, mark)",
    ],
    "judging": [
        "harm_of(house, mark)", "judge(house)", "assure(house)", "bare(house, mark)", "blamed(house, events)",
    ],
    "mending": ["options(house)", "mended(house, chosen)", "mends(house)"],
    "gains": ["greatest_gain(house, office)", "greatest_loss(house, office)"],
    "writing": ["write_house(house)", "write_event(event)", "write_happening(happening)"],
    "reading": ["read_house(lines)", "read_event(line)"],
}

PROMISE = ["__call__(self, old, new, due)", "__and__", "__le__", "__str__"]

CLASSES = {
    ("sheets", "Sheet"): [
        "__init__(self, entries=())", "__or__", "__ior__", "__contains__", "__len__", "__eq__", "__le__", "__iter__",
        "stands(self, number)", "top(self)", "sign_of(self, day)", "rule_of(self, day)",
        "life_of(self, days, plain)", "code_of(self, days, first)",
    ],
    ("rules", "Rule"): [
        "__init__(self, signs, rows)", "__call__(self, life)", "end(self, life)", "total(self, life)", "__getitem__",
        "__len__", "__iter__", "__eq__", "__le__", "__add__", "__sub__", "__neg__", "least(self)", "words(self)",
    ],
    ("kinds", "Paid"): ["__init__(self, sign, amount)"],
    ("kinds", "Flat"): ["__init__(self, signs, amounts)", "words(self)"],
    ("kinds", "Waiting"): ["__init__(self, signs, sign, wait, amount)", "words(self)"],
    ("kinds", "Upto"): ["__init__(self, signs, sign, most, amount)", "words(self)"],
    ("kinds", "Spell"): ["__init__(self, signs, sign, most, amount)", "words(self)"],
    ("kinds", "Once"): ["__init__(self, signs, sign, amount)", "words(self)"],
    ("kinds", "After"): ["__init__(self, signs, sign, other, amount)", "words(self)"],
    ("books", "Book"): [
        "__init__(self, rules)", "__iter__", "rule_named(self, name)", "__getitem__", "__setitem__", "copy(self)",
        "step(self, place, rule, sign)", "places(self, life, code)", "dues(self, life, code)",
    ],
    ("courses", "Course"): [
        "__init__(self, book, offices, charges=None)", "book_copy(self)", "charge(self, office, sign)", "turns(self)",
        "step(self, seat, rule, sign)", "seats(self, life, code)", "run(self, life, code)",
        "own(self, office, life, code)", "coming(self)", "like(self, office, seat, other)",
    ],
    ("promises", "Promise"): PROMISE,
    ("promises", "Fresh"): PROMISE,
    ("promises", "NoLess"): PROMISE,
    ("promises", "NoMore"): PROMISE,
    ("promises", "Between"): PROMISE,
    ("promises", "Better"): PROMISE,
    ("promises", "Both"): ["__init__(self, first, second)", *PROMISE],
    ("practices", "Practice"): [
        "__init__(self, *, again=None, amends='back', heeds='all', stands='last', term=None, pays=None, asks=None)",
        "__getitem__", "__setitem__", "__iter__", "weak(self)", "made_full(self, word)", "copy(self)", "__eq__",
        "__le__", "__str__",
    ],
    ("files", "File"): [
        "__init__(self, course, office, practice)", "pass_day(self)", "read(self, entry)", "appeal(self, day)",
        "row(self, day)", "booked(self, day)", "total(self)", "entries(self)", "view(self, day)", "reckoned(self)",
        "copy(self)",
    ],
    ("purses", "Purse"): [
        "__init__(self, *, unit=1, rest='keep', cap=None, held='keep')", "book(self, amount)", "hold(self)",
        "free(self)", "run(self)", "close(self)", "__bool__", "empty_copy(self)", "copy(self)", "next_runs(self)",
    ],
    ("purses", "Held"): ["__init__(self, purse)", "__enter__", "__exit__"],
    ("ways", "Ways"): [
        "__init__(self, offices, pairs=())", "__contains__", "__len__", "__iter__", "__eq__", "__le__", "__ior__",
        "__isub__", "begin(self, writer, reader)", "stop(self, writer, reader)", "writes(self, office)",
        "hears(self, office)", "lacking(self)", "copy(self)",
    ],
    ("likeness", "Likeness"): [
        "__init__(self, signs, classes)", "__contains__", "__le__", "__and__", "__eq__", "__len__", "__iter__",
    ],
    ("houses", "House"): [
        "__init__(self, course, *, practices=None, purses=None, ways=None, late=None, reach=None)",
        "practice(self, office)", "purse(self, office)", "ways(self)", "with_mark(self, office, word, value)",
        "with_way(self, writer, reader)", "with_bounds(self, late, reach)",
    ],
    ("sessions", "Session"): [
        "__init__(self, house)", "do(self, event)", "settle(self)", "truth(self)", "letters(self)",
        "file(self, office)", "purse(self, office)", "wrong(self)", "copy(self)",
    ],
    ("sessions", "Trying"): ["__init__(self, session)", "__enter__", "__exit__"],
    ("judging", "Harm"): [],
    ("judging", "Verdict"): ["__bool__", "__iter__"],
    ("gains", "Gain"): ["late_word(self, times=0)"],
    ("desk", "Desk"): ["__init__(self, house)", "say(self, line)", "listing(self, lines)"],
}

# Static and class methods: their arguments without the class.
OTHERS = {
    ("practices", "Practice"): (classmethod, "from_text(text)"),
    ("ways", "Ways"): (staticmethod, "all_of(offices)"),
    ("desk", "Desk"): (classmethod, "from_lines(lines)"),
}

GENERATORS = [
    ("comparing", None, "lives"), ("purses", "Purse", "next_runs"), ("ways", None, "deliveries"), ("desk", "Desk", "listing"),
]


class InterfaceTest(unittest.TestCase):
    def check(self, place, found, told):
        name, _, arguments = told.partition("(")
        self.assertTrue(inspect.isfunction(found), f"{place}: {told}")
        self.assertEqual(found.__name__, name)
        if arguments:
            self.assertEqual(f"{name}{inspect.signature(found)}", told)

    def test_functions(self):
        for module, functions in FUNCTIONS.items():
            held = vars(import_module(f"duehouse.{module}"))
            for told in functions:
                found = held[told.partition("(")[0]]
                self.check(module, found, told)
                self.assertEqual(found.__module__, f"duehouse.{module}")

    def test_classes(self):
        for (module, name), methods in CLASSES.items():
            found = vars(import_module(f"duehouse.{module}"))[name]
            self.assertTrue(inspect.isclass(found))
            self.assertEqual(found.__module__, f"duehouse.{module}")
            for told in methods:
                self.check(f"{module}.{name}", vars(found).get(told.partition("(")[0]), told)

    def test_static_and_class_methods(self):
        for (module, name), (kind, told) in OTHERS.items():
            found = vars(import_module(f"duehouse.{module}"))[name]
            method = told.partition("(")[0]
            self.assertIsInstance(vars(found)[method], kind)
            self.assertEqual(f"{method}{inspect.signature(getattr(found, method))}", told)

    def test_generators(self):
        for module, name, told in GENERATORS:
            held = import_module(f"duehouse.{module}")
            found = getattr(held if name is None else getattr(held, name), told)
            self.assertTrue(inspect.isgeneratorfunction(found))


if __name__ == "__main__":
    unittest.main()
