"""Walks through the states of two rules at once, day by day.

A rule stands here for its rows: a row for each state, a pair (due, next) for each sign. Signs are
numbered from 0.
"""


def walked_pairs(rows, others, start=(0, 0)):
    """The pairs of states to which days lead two rules from the start, in the order of coming.

    Each one is a tuple (state, other, back, sign): a day with this sign leads to it from the pair
    with the number `back` in this list. At the start both are None.
    """
    pairs = [(start[0], start[1], None, None)]
    known = {(start[0], start[1]): True}
    at = 0
    while at < len(pairs):
        state, other, _, _ = pairs[at]
        for sign, turn in enumerate(rows[state]):
            led = (turn[1], others[other][sign][1])
            if led not in known:
                known[led] = True
                pairs.append((led[0], led[1], at, sign))
        at += 1
    return pairs


def track_to(pairs, at):
    """The signs, as a list of their numbers, that lead from the start to the pair with this number."""
    track = []
    while pairs[at][2] is not None:
        track.append(pairs[at][3])
        at = pairs[at][2]
    return track[::-1]


def gaps_by_days(rows, others, pairs):
    """Tuples (gap, at, sign) for each pair and sign: pairs that need more days stand behind."""
    gaps = []
    for at, (state, other, _, _) in enumerate(pairs):
        for sign, turn in enumerate(rows[state]):
            gaps.append((turn[0] - others[other][sign][0], at, sign))
    return gaps


def unequal_track(rows, others, start=(0, 0)):
    """As few signs as possible on the last of which the dues differ, or None."""
    pairs = walked_pairs(rows, others, start)
    for gap, at, sign in gaps_by_days(rows, others, pairs):
        if gap != 0:
            return [*track_to(pairs, at), sign]
    return None


def greater_track(rows, others):
    """As few signs as possible on the last of which the first due is the greater one, or None."""
    pairs = walked_pairs(rows, others)
    for gap, at, sign in gaps_by_days(rows, others, pairs):
        if gap > 0:
            return [*track_to(pairs, at), sign]
    return None


def coming_states(rows):
    """The states that come, in the order of coming."""
    return [pair[0] for pair in walked_pairs(rows, rows)]


def classes_of(rows, states):
    """For each of the states the number of its class of like states, in the order of the states."""
    classes = {state: 0 for state in states}
    many = 0
    kinds = 1
    # Each round tells apart what differs a day later than before, until a round tells nothing new.
    while kinds > many:
        many = kinds
        numbers = {}
        told = []
        for state in states:
            dues = tuple([due for due, _ in rows[state]])
            ways = tuple([classes[after] for _, after in rows[state]])
            told.append(numbers.setdefault((dues, ways), len(numbers)))
        classes = {state: told[at] for at, state in enumerate(states)}
        kinds = len(numbers)
    return classes


def least_rows(rows):
    """The rows with the fewest states that give the same dues, in the order of coming."""
    states = coming_states(rows)
    classes = classes_of(rows, states)
    least = []
    for state in states:
        if classes[state] == len(least):
            least.append(tuple([(due, classes[after]) for due, after in rows[state]]))
    return tuple(least)


def sum_rows(rows, others, pairs):
    """The rows of the sum of two rules of which these pairs come."""
    numbers = {(pair[0], pair[1]): at for at, pair in enumerate(pairs)}
    total = []
    for state, other, _, _ in pairs:
        row = []
        for turn, beside in zip(rows[state], others[other]):
            row.append((turn[0] + beside[0], numbers[turn[1], beside[1]]))
        total.append(tuple(row))
    return tuple(total)
