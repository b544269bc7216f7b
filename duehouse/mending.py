"""Mending: which weak marks must be made full, and which ways added, so that a house is right."""

from duehouse.errors import TooMany
from duehouse.harms import Outlook, harmful_marks
from duehouse.ordering import ascending
from duehouse.practices import FULL

MOST_OPTIONS = 8


def options(house):
    """All options of the house, in order."""
    found = []
    for office in house.course.offices:
        found.extend([("full", office, word) for word in house.practice(office).weak()])
    ways = house.ways()
    offices = ascending(house.course.offices)
    for writer in offices:
        for reader in offices:
            if writer != reader and (writer, reader) not in ways:
                found.append(("way", writer, reader))
    return found


def mended(house, chosen):
    """A new house with these options."""
    other = house.with_bounds(house.late, house.reach)
    for form, first, second in chosen:
        if form == "full":
            other = other.with_mark(first, second, FULL.get(second))
        else:
            other = other.with_way(first, second)
    return other


def sets_of(things, size):
    """All sets of so many of the things, as tuples in the order of the things; the sets by their numbers."""
    sets = [((), 0)]
    for _ in range(size):
        sets = [((*chosen, things[at]), at + 1) for chosen, first in sets for at in range(first, len(things))]
    return [chosen for chosen, _ in sets]


def contains_one(chosen, sets):
    """Whether all things of one of these sets are among the chosen ones."""
    return any([all([thing in chosen for thing in other]) for other in sets])


def mends(house):
    """All least sets of options that make the house right, the smaller ones first."""
    found_options = options(house)
    if len(found_options) > MOST_OPTIONS:
        raise TooMany(MOST_OPTIONS)
    outlook = Outlook(house.course)
    least = []
    for size in range(len(found_options) + 1):
        for chosen in sets_of(found_options, size):
            if not contains_one(chosen, least) and len(harmful_marks(outlook, mended(house, chosen))) == 0:
                least.append(chosen)
    return least
