"""Histories made by plans: life and code are told at the office ahead of all days, and the change in its time."""


def told_ahead(course, office, plan):
    """The events that tell life and code at the office.

    Told are the days on which it is not so already, and the first changed one, of which something else
    may be told elsewhere. Of a change of the rule the day behind it is told, too, so that it ends there.
    """
    signs_told = [plan.first] if plan.kind == "sign" else []
    rules_told = [plan.first, plan.last + 1] if plan.kind == "rule" else []
    events = []
    rule = course.rules[0]
    for day, sign in enumerate(plan.life):
        if sign != course.signs[0] or day in signs_told:
            events.append(("tell", office, day, sign))
        if plan.code[day] != rule or day in rules_told:
            rule = plan.code[day]
            events.append(("amend", office, day, rule))
    return events


def change_told(plan, office):
    """The event that tells the change at the office."""
    return ("tell" if plan.kind == "sign" else "amend", office, plan.first, plan.name)


def days_pass(many):
    """The events by which so many days pass."""
    return [("day",)] * many


def writers_to(ways, office):
    """The offices that have a way to this one."""
    return [writer for writer, reader in ways if reader == office]


def unheard_history(course, office, other, plan):
    """The change is told at another office, which this one does not hear."""
    ahead = told_ahead(course, office, plan)
    return [*ahead, change_told(plan, other), *days_pass(len(plan.life))]


def crossed_history(course, ways, office, plan):
    """The change is told first, at another office, and read there behind what is told over it since."""
    writer = writers_to(ways, office)[0]
    index = ways.writes(writer).index(office)
    ahead = told_ahead(course, office, plan)
    return [change_told(plan, writer), *ahead, ("read", index), *days_pass(len(plan.life))]


def late_history(course, ways, office, plan):
    """The office reads the change in a letter when it is to learn it; if no way leads to it, it is told then."""
    ahead = told_ahead(course, office, plan)
    days = days_pass(plan.learnt)
    further = days_pass(len(plan.life) - plan.learnt)
    writers = writers_to(ways, office)
    if len(writers) == 0:
        return [*ahead, *days, change_told(plan, office), *further]
    # The letters of the office itself are the elder ones, and none is read ahead of this one.
    index = len(ahead) * len(ways.writes(office)) + ways.writes(writers[0]).index(office)
    return [*ahead, change_told(plan, writers[0]), *days, ("read", index), *further]
