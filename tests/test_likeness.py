"""Point 29: likenesses, signs that are alike in a book or a course, and lives alike day by day."""

import unittest
from itertools import product

from duehouse.books import Book
from duehouse.courses import Course
from duehouse.errors import BadClasses
from duehouse.kinds import Flat, Once, Upto
from duehouse.likeness import Likeness, course_likeness, likeness_of, unlike
from duehouse.rules import Rule
from tests.support import Case, all_lives, made_book, made_course, seeded

ABC = ("a", "b", "c")


def divisions(signs):
    """All divisions of the signs into classes."""
    if not signs:
        yield []
        return
    for rest in divisions(signs[1:]):
        yield [[signs[0]], *rest]
        for at, group in enumerate(rest):
            yield [*rest[:at], [signs[0], *group], *rest[at + 1:]]


def together(classes):
    """All pairs of signs that lie in one class."""
    return {(one, two) for group in classes for one in group for two in group}


class LikenessTest(Case):
    def test_classes_in_any_order(self):
        for classes in [
            [["c", "a"], ["b"]], [("b",), ("a", "c")], (["a", "c"], ("b",)), (("b",), ("c", "a")),
        ]:
            likeness = Likeness(ABC, classes)
            self.assertEqual(likeness.classes, (("a", "c"), ("b",)))
            self.assertEqual(list(likeness), [("a", "c"), ("b",)])
            self.assertEqual((likeness.signs, len(likeness)), (ABC, 2))
        self.assertEqual(Likeness(["c", "a", "b"], [["a"], ["b", "c"]]).classes, (("c", "b"), ("a",)))
        self.assertEqual(Likeness(["c", "a", "b"], [["a"], ["b", "c"]]).signs, ("c", "a", "b"))
        self.assertEqual(Likeness(("a",), [["a"]]).classes, (("a",),))

    def test_what_is_passed_is_copied(self):
        signs, classes = ["a", "b"], [["b"], ["a"]]
        likeness = Likeness(signs, classes)
        self.assertEqual(classes, [["b"], ["a"]])
        signs.append("c")
        classes[0].append("c")
        classes.clear()
        self.assertEqual((likeness.signs, likeness.classes), (("a", "b"), (("a",), ("b",))))

    def test_bad_classes(self):
        for bad in [
            [], (), [[]], [["a"]], [["a", "b"]], [["a", "b", "c"], []], [[], ["a", "b", "c"]],
            [["a", "b", "c", "a"]], [["a", "b", "c"], ["a"]], [["a", "a", "b"]], [["a", "b"], ["b", "c"]],
            [["a", "b", "c", "d"]], [["a", "b", "c"], ["d"]], [["a", "b"], ["d"]], [["a", "b", ""]],
            [["a", "b"], [None]], [["a", "b"], ["C"]], [["a", "b"], [["c"]]], [["a", "b"], [True]],
            [["a", "b"], "c"], [["a", "b"], None], ["a", "b", "c"], "abc", None, 5, True,
            (("a",), ("b",)), (("a", "b"), ("c",), ("c",)),
        ]:
            with self.subTest(bad):
                caught = self.refused(BadClasses, {"classes": bad}, Likeness, ABC, bad)
                self.assertIs(caught.classes, bad)
        self.refused(BadClasses, {"classes": [["a"], ["b"]]}, Likeness, ("a",), [["a"], ["b"]])

    def test_in_and_length(self):
        for classes in divisions(list(ABC)):
            likeness = Likeness(ABC, classes)
            self.assertEqual(len(likeness), len(classes))
            self.assertEqual(sorted(likeness), sorted(tuple(sorted(group)) for group in classes))
            for one, two in product([*ABC, "d"], repeat=2):
                self.assertIs((one, two) in likeness, (one, two) in together(classes))

    def test_order_equality_and_meet(self):
        for one, two in product(list(divisions(list(ABC))), repeat=2):
            left, right = Likeness(ABC, one), Likeness(ABC, two)
            self.assertIs(left <= right, together(one) <= together(two))
            self.assertIs(left == right, together(one) == together(two))
            self.assertIs(left != right, together(one) != together(two))
            meet = left & right
            self.assertIsInstance(meet, Likeness)
            self.assertEqual(together(meet.classes), together(one) & together(two))
            self.assertEqual(meet.signs, ABC)
            self.assertEqual((left.classes, right.classes), (Likeness(ABC, one).classes, Likeness(ABC, two).classes))
        self.assertNotEqual(Likeness(("a",), [["a"]]), (("a",),))
        self.assertEqual((Likeness(("b", "a"), [["a", "b"]]) & Likeness(("b", "a"), [["a"], ["b"]])).classes, (("b",), ("a",)))


def alike_by_words(course, one, two, most, with_offices):
    """Whether no due (and no office in charge) of a life of at most so many days changes with the sign."""
    for life in all_lives(course.signs, most):
        for day, sign in enumerate(life):
            if sign != one:
                continue
            other = (*life[:day], two, *life[day + 1:])
            for code in product(course.rules, repeat=len(life)):
                ran, changed = course.run(life, code), course.run(other, code)
                if [due for _, due in ran] != [due for _, due in changed]:
                    return False
                # The office behind the last day counts, too: it is in charge of the next one.
                if with_offices and course.seats(life, code)[-1][0] != course.seats(other, code)[-1][0]:
                    return False
    return True


class OfBooksTest(Case):
    def test_examples(self):
        book = Book([("r", Flat(ABC, (1, 1, 2))), ("s", Once(ABC, "c", 5))])
        self.assertEqual(likeness_of(book).classes, (("a", "b"), ("c",)))
        self.assertEqual(likeness_of(book).signs, ABC)
        self.assertEqual(likeness_of(Book([("r", Flat(ABC, (1, 1, 1)))])).classes, (ABC,))
        self.assertEqual(likeness_of(Book([("r", Flat(ABC, (1, 1, 2))), ("s", Flat(ABC, (2, 1, 1)))])).classes, tuple(
            (sign,) for sign in ABC
        ))
        self.assertEqual(likeness_of(Book([("r", Upto(("b", "a"), "a", 2, 0))])).classes, (("b", "a"),))

    def test_states_that_do_not_come_and_like_states(self):
        rows = (((1, 0), (1, 1), (1, 0)), ((1, 1), (1, 0), (1, 1)), ((1, 0), (2, 0), (3, 0)))
        self.assertEqual(likeness_of(Book([("r", Rule(ABC, rows))])).classes, (ABC,))

    def test_alike_only_where_no_table_leads(self):
        # What a and c tell apart under r counts behind an amendment only if its table keeps it.
        upto = Upto(ABC, "a", 1, 0)
        book = Book([("r", upto), ("s", Upto(ABC, "b", 1, 7))])
        self.assertEqual(likeness_of(book).classes, (("a", "c"), ("b",)))
        book["r", "s"] = (0, 1)
        self.assertEqual(likeness_of(book).classes, (("a",), ("b",), ("c",)))

    def test_alike_in_the_book_not_in_the_course(self):
        book = Book([("r", Flat(ABC, (1, 1, 1)))])
        offices = ["x", "y", "z"]
        self.assertEqual(course_likeness(Course(book, offices)).classes, (ABC,))
        course = Course(book, offices, {("x", "b"): "y"})
        self.assertEqual(course_likeness(course).classes, (("a", "c"), ("b",)))
        self.assertEqual(course_likeness(course).signs, ABC)
        # The office z is never in charge, y is.
        course = Course(book, offices, {("x", "b"): "y", ("x", "c"): "y", ("z", "b"): "x"})
        self.assertEqual(course_likeness(course).classes, (("a",), ("b", "c")))
        course = Course(book, offices, {("x", "b"): "y", ("x", "c"): "y", ("y", "c"): "x"})
        self.assertEqual(course_likeness(course).classes, (("a",), ("b",), ("c",)))

    def test_made_up_courses(self):
        rnd = seeded(121)
        met = set()
        for _ in range(150):
            course = made_course(rnd, 3, 2, 2, 3, (0, 0, 0, 1))
            most = 3 if len(course.turns()) > 3 else 4
            told = likeness_of(course.book_copy())
            in_course = course_likeness(course)
            self.assertTrue(in_course <= told)
            for one, two in product(course.signs, repeat=2):
                self.assertIs((one, two) in told, alike_by_words(course, one, two, most, False))
                self.assertIs((one, two) in in_course, alike_by_words(course, one, two, most, True))
            met.add((len(course.signs), len(told), len(in_course)))
        self.assertTrue({(3, 1, 1), (3, 1, 2), (3, 2, 2), (3, 3, 3), (3, 1, 3), (2, 1, 2)} <= met)


def least_unlike(book, likeness, most):
    """The least number of days of two lives alike day by day with unlike dues, by trying all of them."""
    for days in range(1, most + 1):
        for life, other in product(product(book.signs, repeat=days), repeat=2):
            if all(pair in likeness for pair in zip(life, other)):
                for code in product(book.names, repeat=days):
                    if book.dues(life, code) != book.dues(other, code):
                        return days
    return None


class UnlikeTest(Case):
    def check(self, book, likeness, most):
        found = unlike(book, likeness)
        self.assertEqual(unlike(book, likeness), found)
        self.assertIs(found is None, likeness <= likeness_of(book))
        least = least_unlike(book, likeness, most)
        if found is None:
            self.assertIsNone(least)
            return None
        self.assertIsInstance(found, tuple)
        life, other, code = found
        for track in found:
            self.assertIsInstance(track, tuple)
        self.assertTrue(all(pair in likeness for pair in zip(life, other)))
        self.assertEqual(len(life), len(other))
        self.assertNotEqual(book.dues(life, code)[-1], book.dues(other, code)[-1])
        if least is None:
            self.assertGreater(len(life), most)
        else:
            self.assertEqual(len(life), least)
        return len(life)

    def test_examples(self):
        book = Book([("r", Flat(ABC, (1, 1, 2))), ("s", Once(ABC, "c", 5))])
        self.assertIsNone(self.check(book, Likeness(ABC, [["a", "b"], ["c"]]), 2))
        self.assertIsNone(self.check(book, Likeness(ABC, [["a"], ["b"], ["c"]]), 2))
        self.assertEqual(self.check(book, Likeness(ABC, [["a"], ["b", "c"]]), 2), 1)
        late = Rule(("a", "b"), (((0, 0), (0, 1)), ((0, 2), (0, 2)), ((0, 0), (9, 0))))
        self.assertEqual(self.check(Book([("r", late)]), Likeness(("a", "b"), [["a", "b"]]), 3), 1 + 2)

    def test_made_up_books(self):
        rnd = seeded(122)
        met = set()
        for _ in range(150):
            signs = ABC[: rnd.randint(1, 3)]
            book = made_book(rnd, signs, rnd.randint(1, 2), 3, (0, 0, 0, 1))
            likeness = Likeness(signs, rnd.choice(list(divisions(list(signs)))))
            met.add(self.check(book, likeness, 3 if len(signs) * len(book.names) < 5 else 2))
        self.assertTrue({None, 1, 2, 3} <= met)


if __name__ == "__main__":
    unittest.main()
