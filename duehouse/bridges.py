"""Bridges: whether an amendment from one rule of a book to another keeps a promise."""

from duehouse.books import check_two_rules
from duehouse.checks import check_number
from duehouse.rules import check_sign
from duehouse.walks import walked_pairs


def three_dues(book, old, new, life, day):
    """The dues of old, of new and of the amended life, for each day from this day on."""
    check_two_rules(book.names, old, new)
    for sign in life:
        check_sign(book.signs, sign)
    check_number("day", day, 0, len(life))
    rule = book.rule_named(old)
    new_rule = book.rule_named(new)
    old_dues = rule(life)
    new_dues = new_rule(life)
    place = (old, rule.end(life[:day]))
    dues = []
    for at in range(day, len(life)):
        due, place = book.step(place, new, life[at])
        dues.append((old_dues[at], new_dues[at], due))
    return dues


def keeps(book, old, new, promise, life, day):
    """Whether the amendment on this day of the life keeps the promise on all days."""
    for old_due, new_due, due in three_dues(book, old, new, life, day):
        if not promise(old_due, new_due, due):
            return False
    return True


def breaks(promise, rows, new_rows, triple, broken):
    """Whether some day breaks the promise or leads to a triple that is broken."""
    state, beside, entry = triple
    for turn, other, taken in zip(rows[state], new_rows[beside], new_rows[entry]):
        if not promise(turn[0], other[0], taken[0]):
            return True
        if (turn[1], other[1], taken[1]) in broken:
            return True
    return False


def broken_triples(promise, rows, new_rows):
    """The triples from which some days break the promise, as a dict of True.

    A triple has the states of old, of new and of new behind an amendment.
    """
    states = range(len(new_rows))
    triples = [(state, beside, entry) for state in range(len(rows)) for beside in states for entry in states]
    broken = {}
    many = -1
    while len(broken) > many:
        many = len(broken)
        for triple in triples:
            if triple not in broken and breaks(promise, rows, new_rows, triple, broken):
                broken[triple] = True
    return broken


def keeping_pairs(promise, rows, new_rows):
    """The pairs (state of old, of new) from which each day keeps the promise with the due of old."""
    keeping = {}
    for state, row in enumerate(rows):
        for beside, new_row in enumerate(new_rows):
            kept = [promise(turn[0], other[0], turn[0]) for turn, other in zip(row, new_row)]
            keeping[state, beside] = all(kept)
    return keeping


def right_entries(book, old, new, promise):
    """For each state of old the tuple of its right entries, ascending, None last."""
    check_two_rules(book.names, old, new)
    rows = book.rule_named(old).rows
    new_rows = book.rule_named(new).rows
    pairs = walked_pairs(rows, new_rows)
    broken = broken_triples(promise, rows, new_rows)
    keeping = keeping_pairs(promise, rows, new_rows)
    rights = []
    for state in range(len(rows)):
        besides = [pair[1] for pair in pairs if pair[0] == state]
        right = [
            entry
            for entry in range(len(new_rows))
            if not any([(state, beside, entry) in broken for beside in besides])
        ]
        if all([keeping[state, beside] for beside in besides]):
            right.append(None)
        rights.append(tuple(right))
    return rights


def keeps_always(book, old, new, promise):
    """Whether the table from old to new keeps the promise."""
    rights = right_entries(book, old, new, promise)
    return all([entry in right for entry, right in zip(book[old, new], rights)])


def amended_day(rows, new_rows, table, spot, sign):
    """The three dues of a day, amended on it or ahead of it, and the spots to which it leads.

    A spot has the states of old, of new and of new behind the amendment. The last one is None
    while the amendment is ahead or the person is kept: both lead on alike.
    """
    state, beside, entry = spot
    old_due, after = rows[state][sign]
    new_due, beside_after = new_rows[beside][sign]
    taken = table[state] if entry is None else entry
    spots = [(after, beside_after, None)] if entry is None else []
    if taken is None:
        return (old_due, new_due, old_due), spots
    due, entry_after = new_rows[taken][sign]
    spots.append((after, beside_after, entry_after))
    return (old_due, new_due, due), spots


def broken_walk(promise, rows, new_rows, table):
    """The spots, tuples (spot, back, sign), up to the first day that breaks the promise, and this day.

    The day is a pair (number of the spot ahead of it, sign), None if no day breaks the promise.
    """
    walks = [((0, 0, None), None, None)]
    known = {(0, 0, None): True}
    at = 0
    while at < len(walks):
        for sign in range(len(rows[0])):
            dues, spots = amended_day(rows, new_rows, table, walks[at][0], sign)
            if not promise(dues[0], dues[1], dues[2]):
                return walks, (at, sign)
            for spot in spots:
                if spot not in known:
                    known[spot] = True
                    walks.append((spot, at, sign))
        at += 1
    return walks, None


def unbridged(book, old, new, promise):
    """None if the table keeps the promise, else a shortest (life, day) on whose last day it breaks."""
    table = book[old, new]
    rows = book.rule_named(old).rows
    new_rows = book.rule_named(new).rows
    walks, broken = broken_walk(promise, rows, new_rows, table)
    if broken is None:
        return None
    at, sign = broken
    track = [sign]
    day = 0
    while at != 0:
        spot, at, sign = walks[at]
        track.append(sign)
        # The amendment is on the last day that begins with None.
        if spot[2] is None:
            day += 1
    return tuple([book.signs[number] for number in track[::-1]]), day
