"""Plans of histories that end wrong: for each mark a shortest life with one change that shows the harm."""

from duehouse.harms import is_reached, rule_age, sign_age
from duehouse.spreads import rule_difference, sign_difference


class Plan:
    """A life with a code, and a change of some days that an office sees on the day `seen`.

    The kind is "sign" or "rule"; name is the sign or the rule that the change puts in. The change is
    learnt when `learnt` days have passed.
    """

    def __init__(self, kind, life, code, spell, seen, learnt):
        self.kind = kind
        self.life = life
        self.code = code
        self.first, self.last, self.name = spell
        self.seen = seen
        self.learnt = learnt


def sign_plans(found, behind):
    """The plan of what sign_difference found, as a list; the change is learnt so many days behind its day."""
    if found is None:
        return []
    life, code, day, sign, at = found
    return [Plan("sign", life, code, (day, day, sign), at, day + behind)]


def rule_plans(found, behind):
    """The plan of what rule_difference found, as a list; the change is learnt so many days behind its last one."""
    if found is None:
        return []
    life, code, day, last, rule, at = found
    return [Plan("rule", life, code, (day, last, rule), at, last + behind)]


def turned(plan):
    """The plan with the change that leads back."""
    track = plan.life if plan.kind == "sign" else plan.code
    old = track[plan.first]
    changed = (plan.name,) * (plan.last - plan.first + 1)
    track = track[:plan.first] + changed + track[plan.last + 1:]
    life, code = (track, plan.code) if plan.kind == "sign" else (plan.life, track)
    return Plan(plan.kind, life, code, (plan.first, plan.last, old), plan.seen, plan.learnt)


def raises_due(course, office, plan):
    """Whether the change raises the own due of the day on which it is seen."""
    back = turned(plan)
    due = course.own(office, plan.life, plan.code)[plan.seen]
    return course.own(office, back.life, back.code)[plan.seen] > due


def unbooked(course, mark, plan):
    """The plan in which the day that shows the change is too many days back when the change is learnt.

    By the mark what the change gives, or takes, is not booked then.
    """
    office, word, days = mark
    if raises_due(course, office, plan) != (word == "pays"):
        plan = turned(plan)
    life = plan.life + (course.signs[0],) * days
    code = plan.code + plan.code[-1:] * days
    return Plan(plan.kind, life, code, (plan.first, plan.last, plan.name), plan.seen, len(life))


def cut_plans(house, mark):
    """Plans in which a change shows behind the days that are reckoned again."""
    office, _, days = mark
    course = house.course
    plans = []
    if is_reached(sign_age(house, office), days + 1):
        plans.extend(sign_plans(sign_difference(course, office, least=days), days + 1))
    if is_reached(rule_age(house, office), days + 1):
        plans.extend(rule_plans(rule_difference(course, office, least=days), days + 1))
    return plans


def unbooked_plans(house, mark):
    """Plans in which a change shows on a day that is too many days back."""
    office, _, days = mark
    course = house.course
    age, amended_age = sign_age(house, office), rule_age(house, office)
    plans = []
    if is_reached(age, days + 1):
        within = None if age is None else age - days - 1
        plans.extend(sign_plans(sign_difference(course, office, within=within), 0))
    if is_reached(amended_age, days + 1):
        within = None if amended_age is None else amended_age - days - 1
        plans.extend(rule_plans(rule_difference(course, office, within=within), 0))
    return [unbooked(course, mark, plan) for plan in plans]


def plans_of(house, mark):
    """Plans for a harmful mark; no history with fewer days than the shortest of them shows its harm."""
    office, word, value = mark
    course = house.course
    if word == "again":
        return cut_plans(house, mark)
    if word == "amends":
        return rule_plans(rule_difference(course, office), 1)
    if word == "heeds":
        return sign_plans(sign_difference(course, office, foreign=True), 1)
    if word == "term":
        return sign_plans(sign_difference(course, office, wait=value + 1), value + 1)
    if word in ("pays", "asks"):
        return unbooked_plans(house, mark)
    # What is never learnt, or not rightly, is wrong from the first day on.
    return sign_plans(sign_difference(course, office), 0) + rule_plans(rule_difference(course, office), 0)


def shortest_plan(house, mark):
    """A plan for a harmful mark with as few days as possible."""
    plans = plans_of(house, mark)
    best = plans[0]
    for plan in plans:
        if len(plan.life) < len(best.life):
            best = plan
    return best
