"""The errors of the program: each kind of failure has a class of its own."""


class DueError(ValueError):
    """The base of all errors of the program."""


class BadName(DueError):
    """This is no name."""

    def __init__(self, name):
        self.name = name


class Taken(DueError):
    """This name stands there already."""

    def __init__(self, name):
        self.name = name


class Unknown(DueError):
    """This name is not one of those that are there."""

    def __init__(self, name):
        self.name = name


class SameName(DueError):
    """This name stands where two different ones are needed."""

    def __init__(self, name):
        self.name = name


class BadNumber(DueError):
    """A number is out of its range, or there is a wrong number of items."""

    def __init__(self, name):
        self.name = name


class TooMany(DueError):
    """There are more than this limit lets."""

    def __init__(self, limit):
        self.limit = limit


class BadEntry(DueError):
    """This is no entry of a sheet."""

    def __init__(self, entry):
        self.entry = entry


class Clash(DueError):
    """Two different entries have this number."""

    def __init__(self, number):
        self.number = number


class NoEntry(DueError):
    """No entry has this number."""

    def __init__(self, number):
        self.number = number


class BadSpell(DueError):
    """This spell does not follow on the one before, or ends before it begins."""

    def __init__(self, spell):
        self.spell = spell


class BadRow(DueError):
    """The row of this state is none."""

    def __init__(self, state):
        self.state = state


class UnlikeSigns(DueError):
    """Two rules have other signs, or the same ones in another order."""


class BadTable(DueError):
    """This is no table from the one rule to the other."""

    def __init__(self, table):
        self.table = table


class NotBridged(DueError):
    """No entry is right for this state."""

    def __init__(self, state):
        self.state = state


class Unbridged(DueError):
    """This life leads to a state for which no entry is right."""

    def __init__(self, life):
        self.life = life


class BadMark(DueError):
    """This word is no mark, or this value is none of its values."""

    def __init__(self, word, value):
        self.word = word
        self.value = value


class TooLate(DueError):
    """This day is too many days back."""

    def __init__(self, day):
        self.day = day


class Closed(DueError):
    """What was closed is not open any more."""


class NoWay(DueError):
    """There is no way from this writer to this reader."""

    def __init__(self, writer, reader):
        self.writer = writer
        self.reader = reader


class BadClasses(DueError):
    """These classes do not divide the signs."""

    def __init__(self, classes):
        self.classes = classes


class BadEvent(DueError):
    """This is no event."""

    def __init__(self, event):
        self.event = event


class NoLetter(DueError):
    """No waiting letter has this index."""

    def __init__(self, index):
        self.index = index


class NoMark(DueError):
    """The house does not have this mark."""

    def __init__(self, mark):
        self.mark = mark


class HouseWrong(DueError):
    """The house is not right: this office books wrong dues."""

    def __init__(self, office):
        self.office = office


class Blamed(DueError):
    """This mark is why the house is not right."""

    def __init__(self, mark):
        self.mark = mark


class BadLine(DueError):
    """In the line with this number the word with this number is wrong."""

    def __init__(self, line, word):
        self.line = line
        self.word = word
