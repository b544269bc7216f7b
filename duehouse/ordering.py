"""Ascending order, as Python compares."""


def ascending(things):
    """A new list of the things, numbers, strings or tuples of these, in ascending order."""
    ordered = []
    for thing in things:
        at = len(ordered)
        while at > 0 and thing < ordered[at - 1]:
            at = at - 1
        ordered.insert(at, thing)
    return ordered
