"""Ways between offices, and the orders in which the letters of an entry can be read."""

from duehouse.checks import check_names
from duehouse.courses import check_office
from duehouse.errors import NoWay, SameName
from duehouse.ordering import ascending


def check_way(offices, writer, reader):
    """Refuse what is not two different ones of the offices."""
    check_office(offices, writer)
    check_office(offices, reader)
    if writer == reader:
        raise SameName(writer)


def ascending_once(pairs):
    """The pairs, each once, as an ascending tuple."""
    found = {}
    for writer, reader in pairs:
        found[writer, reader] = True
    return tuple(ascending(found))


class Ways:
    """A set of pairs of different offices: the first one writes to the second one."""

    def __init__(self, offices, pairs=()):
        check_names("offices", offices)
        for writer, reader in pairs:
            check_way(offices, writer, reader)
        self.offices = tuple(offices)
        self._pairs = ascending_once(pairs)

    @staticmethod
    def all_of(offices):
        """The ways from each of the offices to each other one."""
        return Ways(offices, [(writer, reader) for writer in offices for reader in offices if writer != reader])

    def __contains__(self, pair):
        return pair in self._pairs

    def __len__(self):
        return len(self._pairs)

    def __iter__(self):
        return iter(self._pairs)

    def __eq__(self, other):
        return isinstance(other, Ways) and self._pairs == other._pairs

    def __le__(self, other):
        if not isinstance(other, Ways):
            return NotImplemented
        return all([pair in other._pairs for pair in self._pairs])

    def __ior__(self, other):
        if not isinstance(other, Ways):
            return NotImplemented
        for writer, reader in other._pairs:
            check_way(self.offices, writer, reader)
        self._pairs = ascending_once(self._pairs + other._pairs)
        return self

    def __isub__(self, other):
        if not isinstance(other, Ways):
            return NotImplemented
        self._pairs = tuple([pair for pair in self._pairs if pair not in other._pairs])
        return self

    def begin(self, writer, reader):
        """Add a way."""
        check_way(self.offices, writer, reader)
        self._pairs = ascending_once([*self._pairs, (writer, reader)])

    def stop(self, writer, reader):
        """Take a way out."""
        if (writer, reader) not in self._pairs:
            raise NoWay(writer, reader)
        self._pairs = tuple([pair for pair in self._pairs if pair != (writer, reader)])

    def writes(self, office):
        """The offices to which this one has ways, ascending."""
        check_office(self.offices, office)
        return tuple([reader for writer, reader in self._pairs if writer == office])

    def hears(self, office):
        """The offices that this one hears, itself too, ascending."""
        check_office(self.offices, office)
        heard = [office]
        at = 0
        while at < len(heard):
            for writer, reader in self._pairs:
                if reader == heard[at] and writer not in heard:
                    heard.append(writer)
            at += 1
        return tuple(ascending(heard))

    def lacking(self):
        """The pairs (office, other) such that office does not hear other, in the order of the offices."""
        pairs = []
        for office in self.offices:
            heard = self.hears(office)
            pairs.extend([(office, other) for other in self.offices if other not in heard])
        return pairs

    def copy(self):
        """A new object with the same offices and ways."""
        return Ways(self.offices, self._pairs)


def letters_of(ways, writer):
    """The letters that the office writes when it learns an entry, as ways, ascending."""
    return [(writer, reader) for reader in ways.writes(writer)]


def deliveries(ways, office):
    """All orders in which the letters of one entry told at the office can be read, ascending."""
    # What is tried first lies on top: (letters read, waiting letters, offices that learnt the entry).
    tried = [((), letters_of(ways, office), [office])]
    while len(tried) > 0:
        order, waiting, learnt = tried.pop()
        if len(waiting) == 0:
            yield order
        for letter in reversed(list(ascending(waiting))):
            left = [other for other in waiting if other != letter]
            reader = letter[1]
            if reader in learnt:
                tried.append(((*order, letter), left, learnt))
            else:
                tried.append(((*order, letter), [*left, *letters_of(ways, reader)], [*learnt, reader]))
