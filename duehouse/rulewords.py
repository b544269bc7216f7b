"""Rules as lines tell them."""

from duehouse.books import MOST_BOOK_STATES
from duehouse.kinds import MOST_PAID, MOST_WAIT, After, Flat, Once, Spell, Upto, Waiting
from duehouse.lines import number_of
from duehouse.rules import MOST_DUE, Rule, is_pair

KINDS = ("flat", "waiting", "upto", "spell", "once", "after", "rows")


def taken_amount(line):
    """The next word, which is an amount."""
    return line.number_within(-MOST_DUE, MOST_DUE)


def pair_of(word):
    """The pair (due, next) that this word writes; what is no number is None."""
    due, _, after = word.partition(":")
    return (number_of(due), number_of(after))


def taken_rows(line, signs):
    """The rows of as many states as the words that are left begin, but no more than a book lets."""
    begun = (line.many_left() + len(signs) - 1) // len(signs)
    states = min(int(begun), MOST_BOOK_STATES) if begun > 0 else 1
    rows = []
    for _ in range(states):
        row = []
        for _ in signs:
            pair = pair_of(line.next_word())
            if not is_pair(pair, states):
                line.refuse_last()
            row.append(pair)
        rows.append(tuple(row))
    return tuple(rows)


def rule_of_rows(line, signs):
    """A rule that is told by its rows."""
    return Rule(signs, taken_rows(line, signs))


def rule_of_amounts(line, signs):
    """A flat rule."""
    return Flat(signs, tuple([taken_amount(line) for _ in signs]))


def rule_of_sign(kind, line, signs):
    """A rule of one of the kinds that tell a sign first."""
    sign = line.one_of(signs)
    if kind == "waiting":
        wait = line.number_within(0, MOST_WAIT)
        return Waiting(signs, sign, wait, taken_amount(line))
    if kind == "once":
        return Once(signs, sign, taken_amount(line))
    if kind == "after":
        other = line.one_of(signs)
        return After(signs, sign, other, taken_amount(line))
    most = line.number_within(1, MOST_PAID)
    if kind == "upto":
        return Upto(signs, sign, most, taken_amount(line))
    return Spell(signs, sign, most, taken_amount(line))


def taken_rule(line, signs):
    """The rule that the words tell that are left."""
    kind = line.one_of(KINDS)
    if kind == "rows":
        return rule_of_rows(line, signs)
    if kind == "flat":
        return rule_of_amounts(line, signs)
    return rule_of_sign(kind, line, signs)
