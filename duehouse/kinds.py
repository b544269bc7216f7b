"""The six usual kinds of rules."""

from duehouse.checks import check_names, check_number
from duehouse.errors import BadNumber
from duehouse.rules import MOST_DUE, Rule, check_sign, is_due

MOST_WAIT = 3
MOST_PAID = 3


def check_amount(amount):
    """Refuse what is no amount that a day can give."""
    check_number("amount", amount, -MOST_DUE, MOST_DUE)


def check_amounts(amounts, many):
    """Refuse what is not so many amounts."""
    if len(amounts) != many or not all([is_due(amount) for amount in amounts]):
        raise BadNumber("amounts")


def check_most(most):
    """Refuse what is no count of paid days."""
    check_number("most", most, 1, MOST_PAID)


def waiting_rows(signs, sign, wait, amount):
    """The rows of Waiting: each state is a length of the run just ahead."""
    rows = []
    for run in range(wait + 1):
        paid = (amount if run == wait else 0, run + 1 if run < wait else wait)
        rows.append(tuple([paid if here == sign else (0, 0) for here in signs]))
    return tuple(rows)


def counted_rows(signs, sign, most, amount, forgets):
    """The rows of Upto and Spell: each state is a count, which other signs set to 0 if it forgets."""
    rows = []
    for count in range(most + 1):
        paid = (amount, count + 1) if count < most else (0, most)
        unpaid = (0, 0 if forgets else count)
        rows.append(tuple([paid if here == sign else unpaid for here in signs]))
    return tuple(rows)


def once_rows(signs, sign, amount):
    """The rows of Once: state 1 behind the first day with the sign."""
    ahead = tuple([(amount, 1) if here == sign else (0, 0) for here in signs])
    behind = tuple([(0, 1) for _ in signs])
    return (ahead, behind)


def after_rows(signs, sign, other, amount):
    """The rows of After: state 1 behind the first day with the sign."""
    ahead = tuple([(0, 1 if here == sign else 0) for here in signs])
    behind = tuple([(amount if here == other else 0, 1) for here in signs])
    return (ahead, behind)


class Paid:
    """A sign and the amount that some of its days give."""

    def __init__(self, sign, amount):
        self.sign = sign
        self.amount = amount


class Flat(Rule):
    """Each sign has its amount, whatever came ahead."""

    def __init__(self, signs, amounts):
        check_names("signs", signs)
        check_amounts(amounts, len(signs))
        Rule.__init__(self, signs, (tuple([(amount, 0) for amount in amounts]),))
        self.amounts = tuple(amounts)

    def words(self):
        """The words by which a text tells this rule."""
        return " ".join(["flat", *[str(amount) for amount in self.amounts]])

    def copy(self):
        """A rule of the same kind."""
        return Flat(self.signs, self.amounts)


class Waiting(Rule, Paid):
    """A day with the sign gives the amount if so many days ahead of it have the sign, too."""

    def __init__(self, signs, sign, wait, amount):
        check_names("signs", signs)
        check_sign(signs, sign)
        check_number("wait", wait, 0, MOST_WAIT)
        check_amount(amount)
        Rule.__init__(self, signs, waiting_rows(signs, sign, wait, amount))
        Paid.__init__(self, sign, amount)
        self.wait = wait

    def words(self):
        """The words by which a text tells this rule."""
        return f"waiting {self.sign} {self.wait} {self.amount}"

    def copy(self):
        """A rule of the same kind."""
        return Waiting(self.signs, self.sign, self.wait, self.amount)


class Upto(Rule, Paid):
    """Each of the first days with the sign gives the amount."""

    def __init__(self, signs, sign, most, amount):
        check_names("signs", signs)
        check_sign(signs, sign)
        check_most(most)
        check_amount(amount)
        Rule.__init__(self, signs, counted_rows(signs, sign, most, amount, False))
        Paid.__init__(self, sign, amount)
        self.most = most

    def words(self):
        """The words by which a text tells this rule."""
        return f"upto {self.sign} {self.most} {self.amount}"

    def copy(self):
        """A rule of the same kind."""
        return Upto(self.signs, self.sign, self.most, self.amount)


class Spell(Rule, Paid):
    """Each of the first days of each run of the sign gives the amount."""

    def __init__(self, signs, sign, most, amount):
        check_names("signs", signs)
        check_sign(signs, sign)
        check_most(most)
        check_amount(amount)
        Rule.__init__(self, signs, counted_rows(signs, sign, most, amount, True))
        Paid.__init__(self, sign, amount)
        self.most = most

    def words(self):
        """The words by which a text tells this rule."""
        return f"spell {self.sign} {self.most} {self.amount}"

    def copy(self):
        """A rule of the same kind."""
        return Spell(self.signs, self.sign, self.most, self.amount)


class Once(Rule, Paid):
    """The first day with the sign gives the amount."""

    def __init__(self, signs, sign, amount):
        check_names("signs", signs)
        check_sign(signs, sign)
        check_amount(amount)
        Rule.__init__(self, signs, once_rows(signs, sign, amount))
        Paid.__init__(self, sign, amount)

    def words(self):
        """The words by which a text tells this rule."""
        return f"once {self.sign} {self.amount}"

    def copy(self):
        """A rule of the same kind."""
        return Once(self.signs, self.sign, self.amount)


class After(Rule, Paid):
    """A day with the other sign gives the amount if a day with the sign is ahead of it."""

    def __init__(self, signs, sign, other, amount):
        check_names("signs", signs)
        check_sign(signs, sign)
        check_sign(signs, other)
        check_amount(amount)
        Rule.__init__(self, signs, after_rows(signs, sign, other, amount))
        Paid.__init__(self, sign, amount)
        self.other = other

    def words(self):
        """The words by which a text tells this rule."""
        return f"after {self.sign} {self.other} {self.amount}"

    def copy(self):
        """A rule of the same kind."""
        return After(self.signs, self.sign, self.other, self.amount)
