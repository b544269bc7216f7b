"""Healing: the fewest changes by which a table of a book keeps a promise."""

from duehouse.books import check_two_rules
from duehouse.bridges import right_entries
from duehouse.comparing import named
from duehouse.errors import NotBridged, Unbridged
from duehouse.walks import track_to, unequal_track, walked_pairs


def wrong_states(book, old, new, promise):
    """The states of old whose entries are not right, ascending."""
    rights = right_entries(book, old, new, promise)
    table = book[old, new]
    return [state for state, right in enumerate(rights) if table[state] not in right]


def shortest_life_to(rule, state):
    """A life with as few days as possible that leads the rule to this state, which comes."""
    pairs = walked_pairs(rule.rows, rule.rows)
    comes = [at for at, pair in enumerate(pairs) if pair[0] == state]
    return named(rule.signs, track_to(pairs, comes[0]))


def bridged_entries(book, old, new, promise):
    """The right entries of each state; refuses the least state that has none."""
    rights = right_entries(book, old, new, promise)
    for state, right in enumerate(rights):
        if len(right) == 0:
            raise NotBridged(state) from Unbridged(shortest_life_to(book.rule_named(old), state))
    return rights


def healed(book, old, new, promise):
    """A copy of the book in which each wrong entry is replaced by the first right one."""
    rights = bridged_entries(book, old, new, promise)
    table = book[old, new]
    copied = book.copy()
    copied[old, new] = tuple([entry if entry in right else right[0] for entry, right in zip(table, rights)])
    return copied


def least_kept(book, old, new, promise):
    """The states of old for which None is the only right entry, as an ascending tuple."""
    rights = bridged_entries(book, old, new, promise)
    return tuple([state for state, right in enumerate(rights) if right == (None,)])


def many_tables(book, old, new, promise):
    """How many tables from old to new keep the promise."""
    many = 1
    for right in right_entries(book, old, new, promise):
        many = many * len(right)
    return many


def told_apart(book, old, new):
    """None if new never needs more than the state of old, else (life, other, further).

    Both lives lead old to one state; behind them the dues of new differ on the last day of further.
    """
    check_two_rules(book.names, old, new)
    new_rows = book.rule_named(new).rows
    pairs = walked_pairs(book.rule_named(old).rows, new_rows)
    # Being like is transitive: it is enough to hold each state of new against the first one.
    first_with = {}
    for at, pair in enumerate(pairs):
        first = first_with.setdefault(pair[0], at)
        further = unequal_track(new_rows, new_rows, (pairs[first][1], pair[1]))
        if further is not None:
            tracks = (track_to(pairs, first), track_to(pairs, at), further)
            return tuple([named(book.signs, track) for track in tracks])
    return None
