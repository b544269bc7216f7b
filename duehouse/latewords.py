"""Late words by which a file ends with as much more than is right, or less, as can be."""

from duehouse.stakes import FAR, NEAR, SINCE, Further, Stakes, days_left_behind


class Start:
    """The changed day of a late word: its seat, its turn, and the turn by which the truth has it."""

    def __init__(self, stakes, seat, turn, other):
        self.seat = seat
        self.turn = turn
        self.other = other
        self._step = stakes.watch.rows[seat][turn]
        self._true_step = stakes.watch.rows[seat][other]
        self.pair = (self._step[1], self._true_step[1])

    def added(self, stakes, left):
        """What the day itself adds if so many days are left."""
        return stakes.added(stakes.is_heeded(self.seat, left), 0, left, self._step[0], self._true_step[0])


def starts_of(stakes):
    """All changed days."""
    watch = stakes.watch
    starts = []
    for seat in range(len(watch.rows)):
        for rule in range(watch.many_rules):
            for sign in range(watch.many_signs):
                for other in range(watch.many_signs):
                    if sign != other:
                        turn, true_turn = watch.turn_number(rule, sign), watch.turn_number(rule, other)
                        starts.append(Start(stakes, seat, turn, true_turn))
    return starts


class LateWord:
    """The turns of a late word: those ahead of a ring, the ring, which can be gone round, and those behind."""

    def __init__(self, ahead, ring, tail, day, sign):
        self.ahead = ahead
        self.ring = ring
        self.tail = tail
        self.day = day
        self.sign = sign


def word_from(stakes, start, further, ring, tail):
    """The late word with this start and these turns, all told by their numbers."""
    watch = stakes.watch
    first = watch.way_to(start.seat)
    ahead = watch.turns_of([*first, start.turn, *further])
    _, sign = watch.turn_list[start.other]
    return LateWord(ahead, watch.turns_of(ring), watch.turns_of(tail), len(first), sign)


class Reached:
    """The pairs of seats to which days lead behind some starts, and how each is first come to."""

    def __init__(self, stakes, starts):
        # For each pair (pair ahead, turn, None), or (None, None, start).
        self._come_from = {}
        for start in starts:
            if start.pair not in self._come_from:
                self._come_from[start.pair] = (None, None, start)
        self.pairs = list(self._come_from)
        at = 0
        while at < len(self.pairs):
            pair = self.pairs[at]
            for turn in range(len(stakes.watch.turn_list)):
                led = (stakes.watch.rows[pair[0]][turn][1], stakes.watch.rows[pair[1]][turn][1])
                if led not in self._come_from:
                    self._come_from[led] = (pair, turn, None)
                    self.pairs.append(led)
            at += 1

    def way_to(self, pair):
        """A start, and the turns that lead from behind it to the pair."""
        track = []
        back, turn, start = self._come_from[pair]
        while start is None:
            track.append(turn)
            back, turn, start = self._come_from[back]
        return start, track[::-1]


def endless_word(stakes, starts, furthers):
    """A late word whose ring adds more each time, or None; behind it the furthers know all far choices."""
    for heeded, further in furthers.items():
        reached = Reached(stakes, [start for start in starts if stakes.is_heeded(start.seat, FAR) == heeded])
        ring = further.grow(reached.pairs)
        if len(ring) > 0:
            start, track = reached.way_to(ring[0])
            turns = further.ring_turns(ring)
            # The first rounds lead so far behind the changed day, and the tail so near to the end, that
            # all further rounds add the same.
            return word_from(stakes, start, [*track, *turns * SINCE], turns, [0] * NEAR)
    return None


def greatest_word(stakes, starts, furthers, lefts):
    """The most that a late word can add, with so many days left on its changed day, and this word.

    If none adds anything, this is 0 and None.
    """
    most = 0
    best = None
    for start in starts:
        for left in lefts:
            further = furthers[stakes.is_heeded(start.seat, left)]
            for days in days_left_behind(left):
                worth = start.added(stakes, left) + further.most_behind(1, days, start.pair)
                if worth > most:
                    most = worth
                    best = (start, further.track(1, days, start.pair))
    if best is None:
        return 0, None
    start, track = best
    return most, word_from(stakes, start, track, [], [])


def best_word(house, office, is_gain):
    """The most that a late word can gain, or lose, None if there is no greatest number, and the word.

    The word is None if no late word gains, or loses, anything.
    """
    stakes = Stakes(house, office, is_gain)
    starts = starts_of(stakes)
    furthers = {heeded: Further(stakes, heeded) for heeded in (False, True)}
    if house.late is not None:
        lefts = [left for left in range(1, FAR) if left <= house.late]
        return greatest_word(stakes, starts, furthers, lefts)
    word = endless_word(stakes, starts, furthers)
    if word is not None:
        return None, word
    return greatest_word(stakes, starts, furthers, list(range(1, FAR + 1)))
