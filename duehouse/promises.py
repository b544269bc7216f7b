"""Promises: what an amendment keeps of the dues.

Each class defines all that a promise can do by itself. The order asks `kept`, a method beside the
call, since an operator calls no object.
"""

from duehouse.errors import Unknown

# All promises compare dues only: three different numbers stand for all triples of integers.
TRIED = (0, 1, 2)


def implies(promise, other):
    """Whether the other promise is kept by all triples by which the first one is kept."""
    for old in TRIED:
        for new in TRIED:
            for due in TRIED:
                if promise.kept(old, new, due) and not other.kept(old, new, due):
                    return False
    return True


class Promise:
    """The promise that all dues keep."""

    def kept(self, old, new, due):
        """Whether these dues keep the promise."""
        return True

    def simple_ones(self):
        """The tuple of the promises without `&` of which this one is made."""
        return (self,)

    def __call__(self, old, new, due):
        return self.kept(old, new, due)

    def __and__(self, other):
        if not isinstance(other, Promise):
            return NotImplemented
        return Both(self, other)

    def __le__(self, other):
        if not isinstance(other, Promise):
            return NotImplemented
        return implies(self, other)

    def __str__(self):
        return "any"


class Fresh(Promise):
    """The due is the new one."""

    def kept(self, old, new, due):
        """Whether these dues keep the promise."""
        return due == new

    def __call__(self, old, new, due):
        return self.kept(old, new, due)

    def __and__(self, other):
        if not isinstance(other, Promise):
            return NotImplemented
        return Both(self, other)

    def __le__(self, other):
        if not isinstance(other, Promise):
            return NotImplemented
        return implies(self, other)

    def __str__(self):
        return "fresh"


class NoLess(Promise):
    """The due is at least the old one."""

    def kept(self, old, new, due):
        """Whether these dues keep the promise."""
        return due >= old

    def __call__(self, old, new, due):
        return self.kept(old, new, due)

    def __and__(self, other):
        if not isinstance(other, Promise):
            return NotImplemented
        return Both(self, other)

    def __le__(self, other):
        if not isinstance(other, Promise):
            return NotImplemented
        return implies(self, other)

    def __str__(self):
        return "noless"


class NoMore(Promise):
    """The due is at most the old one."""

    def kept(self, old, new, due):
        """Whether these dues keep the promise."""
        return due <= old

    def __call__(self, old, new, due):
        return self.kept(old, new, due)

    def __and__(self, other):
        if not isinstance(other, Promise):
            return NotImplemented
        return Both(self, other)

    def __le__(self, other):
        if not isinstance(other, Promise):
            return NotImplemented
        return implies(self, other)

    def __str__(self):
        return "nomore"


class Between(Promise):
    """The due is neither below both others nor above both."""

    def kept(self, old, new, due):
        """Whether these dues keep the promise."""
        return (old <= due or new <= due) and (old >= due or new >= due)

    def __call__(self, old, new, due):
        return self.kept(old, new, due)

    def __and__(self, other):
        if not isinstance(other, Promise):
            return NotImplemented
        return Both(self, other)

    def __le__(self, other):
        if not isinstance(other, Promise):
            return NotImplemented
        return implies(self, other)

    def __str__(self):
        return "between"


class Better(Promise):
    """The due is the greater one of the others."""

    def kept(self, old, new, due):
        """Whether these dues keep the promise."""
        return due == (old if old > new else new)

    def __call__(self, old, new, due):
        return self.kept(old, new, due)

    def __and__(self, other):
        if not isinstance(other, Promise):
            return NotImplemented
        return Both(self, other)

    def __le__(self, other):
        if not isinstance(other, Promise):
            return NotImplemented
        return implies(self, other)

    def __str__(self):
        return "better"


class Both(Promise):
    """Both promises are kept."""

    def __init__(self, first, second):
        self.first = first
        self.second = second
        # Chains may be long: one row of simple promises needs no deep calls.
        self._parts = first.simple_ones() + second.simple_ones()

    def kept(self, old, new, due):
        """Whether these dues keep the promise."""
        return all([part.kept(old, new, due) for part in self._parts])

    def simple_ones(self):
        """The tuple of the promises without `&` of which this one is made."""
        return self._parts

    def __call__(self, old, new, due):
        return self.kept(old, new, due)

    def __and__(self, other):
        if not isinstance(other, Promise):
            return NotImplemented
        return Both(self, other)

    def __le__(self, other):
        if not isinstance(other, Promise):
            return NotImplemented
        return implies(self, other)

    def __str__(self):
        return "+".join([str(part) for part in self._parts])


def simple_promise(word):
    """The promise without `&` that has this word."""
    if word == "any":
        return Promise()
    if word == "fresh":
        return Fresh()
    if word == "noless":
        return NoLess()
    if word == "nomore":
        return NoMore()
    if word == "between":
        return Between()
    if word == "better":
        return Better()
    raise Unknown(word)


def promise_of(text):
    """The promise with this text."""
    promises = [simple_promise(word) for word in text.split("+")]
    promise = promises[0]
    for other in promises[1:]:
        promise = promise & other
    return promise
