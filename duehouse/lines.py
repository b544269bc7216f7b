"""Lines of texts: their words, taken one behind the other, each refused by its number if it does not fit."""

from duehouse.checks import is_name, is_number
from duehouse.errors import BadLine

DIGITS = "0123456789"


def says_nothing(text):
    """Whether the line is empty or a comment."""
    return text == "" or text.startswith("#")


def number_of(text):
    """The number that this word writes, None if it writes none."""
    digits = text.removeprefix("-")
    if digits == "" or not all([sign in DIGITS for sign in digits]):
        return None
    # The number is written back to see leading zeros, and a minus ahead of 0.
    number = int(text)
    return number if str(number) == text else None


class Line:
    """A line of which one word after the other is taken."""

    def __init__(self, number, text):
        self._number = number
        self._words = text.split(" ")
        # How many words are taken.
        self._at = 0

    def many_left(self):
        """How many words are not taken yet."""
        return len(self._words) - self._at

    def first_word(self):
        """The first word, which is taken from now on."""
        self._at = 1
        return self._words[0]

    def next_word(self):
        """The next word."""
        self._at = self._at + 1
        if self._at > len(self._words):
            raise BadLine(self._number, self._at)
        return self._words[self._at - 1]

    def one_of(self, words):
        """The next word, which is one of these."""
        word = self.next_word()
        if word not in words:
            raise BadLine(self._number, self._at)
        return word

    def any_name(self):
        """The next word, which is a name."""
        word = self.next_word()
        if not is_name(word):
            raise BadLine(self._number, self._at)
        return word

    def new_name(self, names):
        """The next word, which is a name and none of these."""
        name = self.any_name()
        if name in names:
            raise BadLine(self._number, self._at)
        return name

    def any_number(self):
        """The next word, which is any number."""
        number = number_of(self.next_word())
        if number is None:
            raise BadLine(self._number, self._at)
        return number

    def number_within(self, low, high):
        """The next word, which is a number from low to high."""
        number = self.any_number()
        if not is_number(number, low, high):
            raise BadLine(self._number, self._at)
        return number

    def no_more(self):
        """No word is left."""
        if self._at < len(self._words):
            raise BadLine(self._number, self._at + 1)

    def refuse_first(self):
        """Refuse the line by its first word."""
        raise BadLine(self._number, 1)

    def refuse_last(self):
        """Refuse the word that was taken last."""
        raise BadLine(self._number, self._at)
