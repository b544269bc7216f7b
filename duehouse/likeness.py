"""Likeness: signs of which none changes a due when it replaces another one."""

from duehouse.courses import Course
from duehouse.errors import BadClasses
from duehouse.seatrows import seat_rows
from duehouse.walks import classes_of


def is_division(signs, classes):
    """Whether each sign stands in exactly one of the classes, once, and nothing else stands there."""
    if not isinstance(classes, (list, tuple)):
        return False
    told = []
    for group in classes:
        if not isinstance(group, (list, tuple)) or len(group) == 0:
            return False
        told.extend(list(group))
    return len(told) == len(signs) and all([sign in told for sign in signs])


def in_order(signs, classes):
    """The classes in the order of their first signs, their signs in order."""
    ordered = []
    for sign in signs:
        for group in classes:
            row = tuple([other for other in signs if other in group])
            if row[0] == sign:
                ordered.append(row)
    return tuple(ordered)


def lies_in_one(group, classes):
    """Whether the signs all lie in one of the classes."""
    return any([all([sign in other for sign in group]) for other in classes])


class Likeness:
    """A division of the signs into classes."""

    def __init__(self, signs, classes):
        if not is_division(signs, classes):
            raise BadClasses(classes)
        self.signs = tuple(signs)
        self.classes = in_order(signs, classes)

    def __contains__(self, pair):
        a, b = pair
        return any([a in group and b in group for group in self.classes])

    def __iter__(self):
        return iter(self.classes)

    def __len__(self):
        return len(self.classes)

    def __eq__(self, other):
        return isinstance(other, Likeness) and self <= other and other <= self

    def __le__(self, other):
        if not isinstance(other, Likeness):
            return NotImplemented
        return all([lies_in_one(group, other.classes) for group in self.classes])

    def __and__(self, other):
        if not isinstance(other, Likeness):
            return NotImplemented
        return Likeness(self.signs, classes_by(self.signs, both_alike(self, other)))


def both_alike(likeness, other):
    """The pairs of signs that lie in one class of both."""
    signs = likeness.signs
    return [(a, b) for a in signs for b in signs if (a, b) in likeness and (a, b) in other]


def classes_by(signs, alike):
    """The classes of the signs if these pairs of signs, each sign with itself among them, are alike."""
    classes = []
    for sign in signs:
        if not any([sign in group for group in classes]):
            classes.append([other for other in signs if (sign, other) in alike])
    return classes


def place_rows(book):
    """The rows of the places of a book that come, with a pair (due, next place) for each turn."""
    course = Course(book, ("all",))
    return seat_rows(course, "all")


def are_alike(rows, classes, many_signs, sign, other):
    """Whether two signs give the same due and lead to like places, from all places under all rules."""
    for row in rows:
        for first in range(0, len(row), many_signs):
            step, beside = row[first + sign], row[first + other]
            if step[0] != beside[0] or classes[step[1]] != classes[beside[1]]:
                return False
    return True


def alike_pairs(book):
    """The pairs of signs that are alike in the book, each sign with itself among them."""
    rows = place_rows(book)
    classes = classes_of(rows, list(range(len(rows))))
    many = len(book.signs)
    pairs = []
    for at, sign in enumerate(book.signs):
        for beside, other in enumerate(book.signs):
            if are_alike(rows, classes, many, at, beside):
                pairs.append((sign, other))
    return pairs


def likeness_of(book):
    """The likeness that has two signs in one class if they are alike in the book."""
    return Likeness(book.signs, classes_by(book.signs, alike_pairs(book)))


def course_likeness(course):
    """The likeness that has two signs in one class if they are alike in the course."""
    offices = [seat[0] for seat in course.coming()]
    alike = []
    for sign, other in alike_pairs(course.book_copy()):
        if all([course.charge(office, sign) == course.charge(office, other) for office in offices]):
            alike.append((sign, other))
    return Likeness(course.signs, classes_by(course.signs, alike))


def alike_days(book, likeness):
    """The days that two lives alike day by day can have: (rule, sign, other, turn, other turn)."""
    days = []
    many = len(book.signs)
    for number, rule in enumerate(book.names):
        for at, sign in enumerate(book.signs):
            for beside, other in enumerate(book.signs):
                if (sign, other) in likeness:
                    days.append((rule, sign, other, number * many + at, number * many + beside))
    return days


def two_lives(walked, at, last):
    """The lives and the code that lead to this pair of places, and one more day."""
    days = [last]
    while walked[at][1] is not None:
        _, at, day = walked[at]
        days.append(day)
    days.reverse()
    return tuple([day[1] for day in days]), tuple([day[2] for day in days]), tuple([day[0] for day in days])


def unlike(book, likeness):
    """None if lives alike day by day have equal dues, else a shortest (life, other, code) that do not."""
    rows = place_rows(book)
    days = alike_days(book, likeness)
    # Tuples (pair of places, number of the pair ahead of the last day, this day).
    walked = [((0, 0), None, None)]
    known = {(0, 0): True}
    at = 0
    while at < len(walked):
        one, two = walked[at][0]
        for day in days:
            step, beside = rows[one][day[3]], rows[two][day[4]]
            if step[0] != beside[0]:
                return two_lives(walked, at, day)
            if (step[1], beside[1]) not in known:
                known[step[1], beside[1]] = True
                walked.append(((step[1], beside[1]), at, day))
        at += 1
    return None
