"""How many days behind two seats an office sees a difference between them.

Pairs of seats are tuples of two different numbers, the lesser one first; the same turns follow on
both. Rows are those of duehouse.seatrows.
"""

from duehouse.seatrows import unlike_pair


def leads_of(rows, pair):
    """The pairs to which one more turn leads a pair, as a list of tuples (turn, pair)."""
    leads = {}
    for turn, step in enumerate(rows[pair[0]]):
        led = unlike_pair(step[1], rows[pair[1]][turn][1])
        if led is not None and led not in leads:
            leads[led] = turn
    return [(turn, led) for led, turn in leads.items()]


def seen_turn(rows, pair):
    """The first turn on which the own dues from both seats differ, or None."""
    for turn, step in enumerate(rows[pair[0]]):
        if step[0] != rows[pair[1]][turn][0]:
            return turn
    return None


def layer_ahead(leads, layer):
    """The pairs that one turn leads into the layer, each with the turn and the pair behind it."""
    ahead = {}
    for pair, steps in leads.items():
        for turn, led in steps:
            if led in layer:
                ahead[pair] = (turn, led)
                break
    return ahead


class Sights:
    """What an office sees behind some pairs of seats and all pairs to which they lead."""

    def __init__(self, rows, starts):
        # How each pair is first come to: (pair ahead, turn), both None for a start.
        self.come_from = {pair: (None, None) for pair in starts}
        self.leads = {}
        waiting = list(self.come_from)
        at = 0
        while at < len(waiting):
            pair = waiting[at]
            self.leads[pair] = leads_of(rows, pair)
            for turn, led in self.leads[pair]:
                if led not in self.come_from:
                    self.come_from[led] = (pair, turn)
                    waiting.append(led)
            at += 1
        self._seen = {pair: seen_turn(rows, pair) for pair in self.leads}

    def soonest(self, least):
        """The least numbers of days, `least` (1 or more) or above, behind which a difference is seen.

        They are a dict from pairs, of those from which it is seen at all. Behind it the layers that
        `seen_track` needs: with the number k those pairs from which a difference is seen on the k-th day.
        """
        layers = [{}, {pair: (turn, None) for pair, turn in self._seen.items() if turn is not None}]
        days = {}
        many = 1
        while len(layers[many]) > 0:
            if many >= least:
                fresh = [pair for pair in layers[many] if pair not in days]
                # From `least` on, a layer without a new pair is followed by such layers only.
                if len(fresh) == 0:
                    break
                for pair in fresh:
                    days[pair] = many
            layers.append(layer_ahead(self.leads, layers[many]))
            many += 1
        return days, layers

    def latest(self):
        """The greatest numbers of days behind which a difference is seen, and the pairs with no greatest.

        The numbers are a dict from pairs, of those from which it is seen at all and that have one.
        """
        able, _ = self.soonest(1)
        leads = {pair: [led for _, led in self.leads[pair] if led in able] for pair in able}
        backs = {pair: [] for pair in able}
        for pair, further in leads.items():
            for led in further:
                backs[led].append(pair)
        left = {pair: len(further) for pair, further in leads.items()}
        days = {pair: 1 for pair in able if left[pair] == 0}
        settled = list(days)
        at = 0
        while at < len(settled):
            for back in backs[settled[at]]:
                left[back] = left[back] - 1
                if left[back] == 0:
                    days[back] = 1 + max([int(days[led]) for led in leads[back]])
                    settled.append(back)
            at += 1
        return days, [pair for pair in able if pair not in days]

    def way_to(self, pair):
        """The start from which the pair is first come to, and the turns from there on."""
        track = []
        back, turn = self.come_from[pair]
        while back is not None:
            track.append(turn)
            pair = back
            back, turn = self.come_from[pair]
        return pair, track[::-1]

    def ring_among(self, pairs):
        """One of these pairs, and turns that lead from it around to it again.

        From each of these pairs some turn leads to another one of them, or to itself.
        """
        inner = {pair: [step for step in self.leads[pair] if step[1] in pairs] for pair in pairs}
        met = {}
        turns = []
        pair = pairs[0]
        while pair not in met:
            met[pair] = len(turns)
            turn, pair = inner[pair][0]
            turns.append(turn)
        return pair, turns[met[pair]:]


def seen_track(layers, pair, days):
    """Turns behind the pair, so many of them, on the last of which a difference is seen."""
    track = []
    while pair is not None:
        turn, pair = layers[days][pair]
        track.append(turn)
        days = days - 1
    return track
