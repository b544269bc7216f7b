"""Practices: by which marks an office takes up what it reads late."""

from duehouse.errors import BadMark

WORDS = ("again", "amends", "heeds", "stands", "term", "pays", "asks")
FULL = {
    "again": None,
    "amends": "back",
    "heeds": "all",
    "stands": "last",
    "term": None,
    "pays": None,
    "asks": None,
}
WEAK = {
    "again": (1, 2, 3),
    "amends": ("ahead",),
    "heeds": ("own",),
    "stands": ("come",),
    "term": (0, 1, 2, 3),
    "pays": (0, 1, 2, 3),
    "asks": (0, 1, 2, 3),
}


def is_weak_value(word, value):
    """Whether this is a weak value for the mark with this word."""
    # A boolean equals a number, but it is none.
    if isinstance(value, bool) or not isinstance(value, (int, str)):
        return False
    return value in WEAK[word]


def is_full_value(word, value):
    """Whether this is the full value for the mark with this word."""
    if FULL[word] is None:
        return value is None
    return isinstance(value, str) and value == FULL[word]


def check_word(word, value):
    """Refuse, with this value, what is no word of a mark."""
    if word not in WORDS:
        raise BadMark(word, value)


def check_mark(word, value):
    """Refuse what is no word of a mark or none of its values."""
    check_word(word, value)
    if not is_full_value(word, value) and not is_weak_value(word, value):
        raise BadMark(word, value)


def weak_value_of(word, text):
    """The weak value with this text for the mark with this word, None if there is none."""
    for value in WEAK[word]:
        if str(value) == text:
            return value
    return None


def weak_mark_of(part):
    """The word and the value that a part of a practice's text tells."""
    word, _, text = part.partition("=")
    check_word(word, text)
    value = weak_value_of(word, text)
    if value is None:
        raise BadMark(word, text)
    return word, value


class Practice:
    """A mark for each of the seven words."""

    def __init__(self, *, again=None, amends="back", heeds="all", stands="last", term=None, pays=None, asks=None):
        marks = {
            "again": again,
            "amends": amends,
            "heeds": heeds,
            "stands": stands,
            "term": term,
            "pays": pays,
            "asks": asks,
        }
        for word in WORDS:
            check_mark(word, marks[word])
        self._marks = marks

    @classmethod
    def from_text(cls, text):
        """The practice with this text."""
        practice = cls()
        if text == "full":
            return practice
        told = {}
        for part in text.split(" "):
            word, value = weak_mark_of(part)
            if word in told:
                raise BadMark(word, str(value))
            told[word] = True
            practice[word] = value
        return practice

    def __getitem__(self, at):
        check_word(at, None)
        return self._marks[at]

    def __setitem__(self, at, worth):
        check_mark(at, worth)
        self._marks[at] = worth

    def __iter__(self):
        return iter(self._marks)

    def __eq__(self, other):
        return isinstance(other, Practice) and self._marks == other._marks

    def __le__(self, other):
        if not isinstance(other, Practice):
            return NotImplemented
        return all([self._marks[word] == other._marks[word] for word in other.weak()])

    def __str__(self):
        parts = [f"{word}={self._marks[word]}" for word in self.weak()]
        if len(parts) == 0:
            return "full"
        return " ".join(parts)

    def weak(self):
        """The words with weak marks, in order."""
        return [word for word in WORDS if self._marks[word] != FULL[word]]

    def made_full(self, word):
        """A new practice with this mark full."""
        check_word(word, None)
        practice = self.copy()
        practice[word] = FULL[word]
        return practice

    def copy(self):
        """A new practice with the same marks."""
        practice = Practice()
        practice._marks = dict(self._marks)
        return practice
