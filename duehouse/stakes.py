"""What is at stake in a late word: by how much more than is right, or less, its file ends.

A late word stands here for the days from the one on whose sign it changes. On each of them the file and
the truth have seats, a pair of numbers, since the truth has the changed sign. `since` tells how many
days behind the changed one a day is, `left` how many days pass from it to the end, itself counted. No
mark tells apart what is more than 3 of either: since is at most SINCE, and left is FAR for all above 3.
"""

from duehouse.files import is_booked
from duehouse.seatrows import Watch

SINCE = 3
NEAR = 3
FAR = 4


class Stakes:
    """What each day of a late word at an office adds to its gain, or to its loss, and where it leads."""

    def __init__(self, house, office, is_gain):
        self.watch = Watch(house.course, office)
        self._practice = house.practice(office)
        self._is_gain = is_gain

    def is_heeded(self, seat, left):
        """Whether the file takes up the change of a day that begins with this seat."""
        practice = self._practice
        if practice["heeds"] == "own" and not self.watch.in_charge[seat]:
            return False
        return practice["term"] is None or left <= practice["term"]

    def added(self, heeded, since, left, due, right):
        """What a day adds whose due was booked while the other one is right."""
        again = self._practice["again"]
        if heeded and (again is None or since < again) and is_booked(self._practice, right - due, left):
            return 0
        return due - right if self._is_gain else right - due

    def step(self, heeded, since, left, pair, turn):
        """What a day with this turn adds that begins with this pair of seats, and the pair behind it."""
        due, seat = self.watch.rows[pair[0]][turn]
        right, other = self.watch.rows[pair[1]][turn]
        return self.added(heeded, since, left, due, right), (seat, other)


def days_left_behind(left):
    """How many days can be left behind a day of which so many are left."""
    return (FAR, NEAR) if left == FAR else (left - 1,)


def next_since(since):
    """How many days behind the changed one the next day is."""
    return since + 1 if since < SINCE else SINCE


class Choice:
    """A turn for a day, what it and the days behind it add, and what is left behind it."""

    def __init__(self, worth, turn, left, pair):
        self.worth = worth
        self.turn = turn
        self.left = left
        self.pair = pair


class Further:
    """The turns by which most is added behind pairs of seats, if the change is heeded, or if it is not."""

    def __init__(self, stakes, heeded):
        self._stakes = stakes
        self._heeded = heeded
        self._choices = {}

    def most_behind(self, since, left, pair):
        """The most that the days to the end can add."""
        return 0 if left == 0 else self.choice(since, left, pair).worth

    def choice(self, since, left, pair):
        """The choice by which most is added. With SINCE and FAR, `grow` must have told it."""
        if (since, left, pair) not in self._choices:
            self._choices[since, left, pair] = self._best(since, left, pair, days_left_behind(left))
        return self._choices[since, left, pair]

    def _best(self, since, left, pair, behind):
        """The best choice of those that leave one of these numbers of days."""
        best = None
        for turn in range(len(self._stakes.watch.turn_list)):
            added, led = self._stakes.step(self._heeded, since, left, pair, turn)
            for days in behind:
                worth = added + self.most_behind(next_since(since), days, led)
                if best is None or worth > best.worth:
                    best = Choice(worth, turn, days, led)
        return best

    def grow(self, pairs):
        """Find the choices of these pairs with SINCE and FAR; all pairs to which they lead are among them.

        If ever more can be added by going round, a round is returned, a list of pairs; else an empty one.
        """
        for pair in pairs:
            self._choices[SINCE, FAR, pair] = self._best(SINCE, FAR, pair, (NEAR,))
        grown = True
        while grown:
            grown = False
            for pair in pairs:
                best = self._best(SINCE, FAR, pair, (FAR, NEAR))
                if best.worth > self._choices[SINCE, FAR, pair].worth:
                    self._choices[SINCE, FAR, pair] = best
                    grown = True
            # Choices that lead round add more with each round: each was made by what the next one had
            # at least, and one of them by less than the next one has now.
            ring = self._round(pairs)
            if len(ring) > 0:
                return ring
        return []

    def _round(self, pairs):
        """Pairs whose choices lead from each to the next one, and from the last to the first; or none."""
        passed = {}
        for start in pairs:
            pair = start
            way = []
            while pair is not None and pair not in passed:
                passed[pair] = start
                way.append(pair)
                chosen = self._choices[SINCE, FAR, pair]
                pair = chosen.pair if chosen.left == FAR else None
            # What was passed from another start leads to no round.
            if pair is not None and passed[pair] == start:
                return way[way.index(pair):]
        return []

    def ring_turns(self, ring):
        """The turns by which the choices of these pairs lead round."""
        return [self._choices[SINCE, FAR, pair].turn for pair in ring]

    def track(self, since, left, pair):
        """The turns to the end by which most is added."""
        track = []
        while left > 0:
            chosen = self.choice(since, left, pair)
            track.append(chosen.turn)
            left, pair, since = chosen.left, chosen.pair, next_since(since)
        return track
