"""Rules: what each day gives, and what it leads to."""

from duehouse.checks import check_names, check_number, is_number
from duehouse.errors import BadNumber, BadRow, TooMany, Unknown, UnlikeSigns
from duehouse.walks import greater_track, least_rows, sum_rows, unequal_track, walked_pairs

MOST_DUE = 999
MOST_STATES = 16


def is_due(due):
    """Whether this is an amount that a day can give."""
    return is_number(due, -MOST_DUE, MOST_DUE)


def is_pair(pair, states):
    """Whether this is a pair (due, next) for so many states."""
    if not isinstance(pair, (tuple, list)) or len(pair) != 2:
        return False
    return is_due(pair[0]) and is_number(pair[1], 0, states - 1)


def is_row(row, signs, states):
    """Whether this is a row for so many signs and states."""
    if not isinstance(row, (tuple, list)) or len(row) != signs:
        return False
    return all([is_pair(pair, states) for pair in row])


def check_rows(rows, signs):
    """Refuse what is not 1 to 16 rows for so many signs."""
    check_number("rows", len(rows), 1, MOST_STATES)
    for state, row in enumerate(rows):
        if not is_row(row, signs, len(rows)):
            raise BadRow(state)


def check_sign(signs, sign):
    """Refuse what is none of the signs."""
    if sign not in signs:
        raise Unknown(sign)


def check_alike(rule, other):
    """Refuse two rules with other signs, or the same ones in another order."""
    if rule.signs != other.signs:
        raise UnlikeSigns()


def passed(rule, life):
    """The list of the dues of a life, and the state behind it."""
    dues = []
    state = 0
    numbers = {sign: at for at, sign in enumerate(rule.signs)}
    for sign in life:
        check_sign(rule.signs, sign)
        due, state = rule.rows[state][numbers[sign]]
        dues.append(due)
    return dues, state


class Rule:
    """A due and a next state for each state and sign; a life begins in state 0."""

    def __init__(self, signs, rows):
        check_names("signs", signs)
        check_rows(rows, len(signs))
        self.signs = tuple(signs)
        self.rows = tuple([tuple([(due, after) for due, after in row]) for row in rows])

    def __call__(self, life):
        """The list of the dues of a life."""
        return passed(self, life)[0]

    def end(self, life):
        """The state behind a life."""
        return passed(self, life)[1]

    def total(self, life):
        """The sum of the dues of a life."""
        return sum(passed(self, life)[0])

    def __getitem__(self, at):
        if not is_number(at, 0, len(self.rows) - 1):
            raise BadNumber("state")
        return self.rows[at]

    def __len__(self):
        return len(self.rows)

    def __iter__(self):
        return iter(self.rows)

    def __eq__(self, other):
        if not isinstance(other, Rule) or self.signs != other.signs:
            return False
        return unequal_track(self.rows, other.rows) is None

    def __le__(self, other):
        if not isinstance(other, Rule):
            return NotImplemented
        check_alike(self, other)
        return greater_track(self.rows, other.rows) is None

    def __neg__(self):
        return Rule(self.signs, tuple([tuple([(-due, after) for due, after in row]) for row in self.rows]))

    def __add__(self, other):
        if not isinstance(other, Rule):
            return NotImplemented
        check_alike(self, other)
        pairs = walked_pairs(self.rows, other.rows)
        if len(pairs) > MOST_STATES:
            raise TooMany(MOST_STATES)
        rows = sum_rows(self.rows, other.rows, pairs)
        if not all([is_due(due) for row in rows for due, _ in row]):
            raise BadNumber("due")
        return Rule(self.signs, rows)

    def __sub__(self, other):
        if not isinstance(other, Rule):
            return NotImplemented
        return self + -other

    def least(self):
        """The equal rule with the fewest states, numbered in the order of coming."""
        return Rule(self.signs, least_rows(self.rows))

    def words(self):
        """The words by which a text tells this rule."""
        pairs = [f"{due}:{after}" for row in self.rows for due, after in row]
        return " ".join(["rows", *pairs])

    def copy(self):
        """A rule of the same kind."""
        return Rule(self.signs, self.rows)
