"""Spreads: behind how many days an office sees a change of a sign or of a rule.

As duehouse.changes tells, changes of rules on one day are enough for all that is asked here.
"""

from duehouse.changes import rule_changes, sign_changes
from duehouse.courses import check_office
from duehouse.seatrows import Watch
from duehouse.sights import Sights, seen_track


def watch_of(course, office):
    """The office as it watches the seats of the course."""
    check_office(course.offices, office)
    return Watch(course, office)


def sights_behind(watch, changes):
    """What the office sees behind the changes."""
    return Sights(watch.rows, [change.behind for change in changes if change.behind is not None])


def spread_of(watch, changes):
    """The pair (near, far) of these changes, None if the office sees none of them."""
    sights = sights_behind(watch, changes)
    soonest, _ = sights.soonest(1)
    days = [0 for change in changes if change.seen]
    days.extend([soonest[change.behind] for change in changes if change.behind in soonest])
    if len(days) == 0:
        return None
    near = min([int(day) for day in days])
    latest, endless_pairs = sights.latest()
    if len(endless_pairs) > 0:
        return near, None
    return near, max([int(latest[pair]) for pair in latest], default=0)


def sign_spread(course, office):
    """The pair (near, far) for sign changes, or None."""
    watch = watch_of(course, office)
    return spread_of(watch, sign_changes(watch, False))


def rule_spread(course, office, most=None):
    """The pair (near, far) for rule changes of at most so many days, or None."""
    watch = watch_of(course, office)
    return spread_of(watch, rule_changes(watch))


def shortest_sight(watch, changes, least, within, wait):
    """The change, and the turns behind its day, that need as few days as possible, or None.

    The office sees the change on the last of these turns; if there are none, on the day itself.
    """
    soonest, layers = sights_behind(watch, changes).soonest(max(1, least))
    found = None
    fewest = None
    for change in changes:
        further = 0 if change.seen and least <= 0 else soonest.get(change.behind)
        if further is None or (within is not None and further > within):
            continue
        days = watch.depths[change.seat] + max(int(further + 1), wait)
        if fewest is None or days < fewest:
            fewest = days
            found = (change, further)
    if found is None:
        return None
    change, further = found
    return change, ([] if further == 0 else seen_track(layers, change.behind, further))


def life_and_code(watch, track):
    """The life and the code of a list of turns."""
    turns = watch.turns_of(track)
    return tuple([sign for _, sign in turns]), tuple([rule for rule, _ in turns])


def sign_difference(course, office, *, least=0, within=None, wait=0, foreign=False):
    """None, or (life, code, day, sign, at): a shortest life in which the office sees such a change."""
    watch = watch_of(course, office)
    sight = shortest_sight(watch, sign_changes(watch, foreign), least, within, wait)
    if sight is None:
        return None
    change, further = sight
    ahead = watch.way_to(change.seat)
    # Any turns do where the life must go on.
    rest = [0] * (wait - 1 - len(further))
    life, code = life_and_code(watch, [*ahead, change.turn, *further, *rest])
    return life, code, len(ahead), course.signs[change.name], len(ahead) + len(further)


def rule_difference(course, office, *, most=None, least=0, within=None):
    """None, or (life, code, day, last, rule, at): a shortest life in which the office sees such a change."""
    watch = watch_of(course, office)
    sight = shortest_sight(watch, rule_changes(watch), least, within, 0)
    if sight is None:
        return None
    change, further = sight
    ahead = watch.way_to(change.seat)
    life, code = life_and_code(watch, [*ahead, change.turn, *further])
    return life, code, len(ahead), len(ahead), course.rules[change.name], len(life) - 1


def endless(course, office, kind):
    """None, or (life, code, day, last, name, lead, ring, tail): a change that is seen ever later."""
    watch = watch_of(course, office)
    changes = sign_changes(watch, False) if kind == "sign" else rule_changes(watch)
    names = course.signs if kind == "sign" else course.rules
    sights = sights_behind(watch, changes)
    _, endless_pairs = sights.latest()
    if len(endless_pairs) == 0:
        return None
    pair, ring = sights.ring_among(endless_pairs)
    start, lead = sights.way_to(pair)
    soonest, layers = sights.soonest(1)
    change = [other for other in changes if other.behind == start][0]
    ahead = watch.way_to(change.seat)
    life, code = life_and_code(watch, [*ahead, change.turn])
    tracks = (lead, ring, seen_track(layers, pair, soonest[pair]))
    turns = [watch.turns_of(track) for track in tracks]
    return life, code, len(ahead), len(ahead), names[change.name], *turns
