"""Events of a session: what stands behind the word of each."""

from duehouse.errors import BadEvent

FORMS = {
    "tell": ("office", "day", "sign"),
    "amend": ("office", "day", "rule"),
    "void": ("office", "number"),
    "read": ("index",),
    "day": (),
    "appeal": ("office", "day"),
    "hold": ("office",),
    "free": ("office",),
    "run": ("office",),
    "close": (),
}


def is_event(event):
    """Whether this is a tuple with the word of an event and as many items as it has."""
    if not isinstance(event, tuple) or len(event) == 0 or not isinstance(event[0], str):
        return False
    return event[0] in FORMS and len(event) == 1 + len(FORMS[event[0]])


def check_event(event):
    """Refuse what has none of the forms."""
    if not is_event(event):
        raise BadEvent(event)
