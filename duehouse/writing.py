"""Writing: the text of a house, and the lines of events and happenings."""

WORDS_OF_PURSES = ("unit", "rest", "cap", "held")


def line_of(words):
    """The line with these words; numbers are written in digits."""
    return " ".join([str(word) for word in words])


def rule_lines(book):
    """The lines of the rules and of the tables that are not all 0."""
    lines = [line_of(["rule", name, book.rule_named(name).words()]) for name in book]
    for old in book:
        for new in book:
            if old != new and any([entry != 0 for entry in book[old, new]]):
                entries = ["-" if entry is None else entry for entry in book[old, new]]
                lines.append(line_of(["bridge", old, new, *entries]))
    return lines


def charge_lines(course):
    """The lines of the charges that name another office."""
    lines = []
    for office in course.offices:
        for sign in course.signs:
            other = course.charge(office, sign)
            if other != office:
                lines.append(line_of(["charge", office, sign, other]))
    return lines


def bound_lines(house):
    """The lines of the bounds."""
    bounds = [("late", house.late), ("reach", house.reach)]
    return [line_of(bound) for bound in bounds if bound[1] is not None]


def practice_lines(house):
    """The lines of the weak marks."""
    lines = []
    for office in house.course.offices:
        practice = house.practice(office)
        lines.extend([line_of(["practice", office, word, practice[word]]) for word in practice.weak()])
    return lines


def purse_lines(house):
    """The lines of the marks of purses that are not the usual ones."""
    lines = []
    for office in house.course.offices:
        purse = house.purse(office)
        values = (purse.unit, purse.rest, purse.cap, purse.held_mark)
        for word, value, usual in zip(WORDS_OF_PURSES, values, (1, "keep", None, "keep")):
            if value != usual:
                lines.append(line_of(["purse", office, word, value]))
    return lines


def write_house(house):
    """The text of a house, a list of lines."""
    course = house.course
    return [
        line_of(["signs", *course.signs]),
        *rule_lines(course.book_copy()),
        line_of(["offices", *course.offices]),
        *charge_lines(course),
        *bound_lines(house),
        *practice_lines(house),
        *purse_lines(house),
        *[line_of(["way", *way]) for way in house.ways()],
    ]


def write_event(event):
    """The line of an event."""
    return line_of(event)


def write_happening(happening):
    """The line of what happened."""
    return line_of(happening)
