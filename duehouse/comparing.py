"""What tells two rules apart, and what a rule remembers: answers with witnesses."""

from duehouse.checks import check_number
from duehouse.rules import check_alike
from duehouse.walks import gaps_by_days, greater_track, least_rows, track_to, unequal_track, walked_pairs

MOST_REMEMBERED = 20
MOST_LISTED = 6


def named(signs, track):
    """The life of a list of numbers of signs, None for None."""
    if track is None:
        return None
    return tuple([signs[sign] for sign in track])


def parting(a, b):
    """None if the rules are equal, else a shortest life on whose last day the dues differ."""
    check_alike(a, b)
    return named(a.signs, unequal_track(a.rows, b.rows))


def above(a, b):
    """None if a <= b, else a shortest life on whose last day the due of a is greater."""
    check_alike(a, b)
    return named(a.signs, greater_track(a.rows, b.rows))


def steps_of(a, b):
    """For each pair that comes its days, tuples (sign, gap, number of the next pair)."""
    pairs = walked_pairs(a.rows, b.rows)
    numbers = {(pair[0], pair[1]): at for at, pair in enumerate(pairs)}
    steps = [[] for _ in pairs]
    for gap, at, sign in gaps_by_days(a.rows, b.rows, pairs):
        led = (a.rows[pairs[at][0]][sign][1], b.rows[pairs[at][1]][sign][1])
        steps[at].append((sign, gap, numbers[led]))
    return steps


def next_layer(steps, layer, best):
    """The pairs whose gap is the greatest so far with a day more than those of the layer.

    A layer is a dict from a pair to a tuple (gap, pair ahead of the last day, its sign). In best
    stands for each pair the greatest gap with no more days.
    """
    found = {}
    for pair, (gap, _, _) in layer.items():
        for sign, more, led in steps[pair]:
            reached = gap + more
            if led in best and reached <= best[led]:
                continue
            if led not in found or reached > found[led][0]:
                found[led] = (reached, pair, sign)
    return found


def gap_layers(steps):
    """The layers of 0, 1, .. days, up to the last one that is not empty, but no more than pairs + 1."""
    layers = [{0: (0, None, None)}]
    best = {0: 0}
    found = next_layer(steps, layers[0], best)
    while len(found) > 0 and len(layers) <= len(steps):
        layers.append(found)
        for pair, (gap, _, _) in found.items():
            best[pair] = gap
        found = next_layer(steps, found, best)
    return layers


def layer_walk(layers, days, pair):
    """The days, tuples (pair ahead, sign), of the walk to this pair in the layer of so many days."""
    walk = []
    while days > 0:
        _, back, sign = layers[days][pair]
        walk.append((back, sign))
        pair = back
        days = days - 1
    return walk[::-1]


def gaining_ring(layers):
    """The lead and the ring, lists of signs, that are in a walk of as many days as there are pairs.

    So many days come to some pair twice, the second time with a greater gap: in a later layer a
    pair stands only with a greater gap than in all layers ahead of it.
    """
    days = len(layers) - 1
    last = next(iter(layers[days]), None)
    walk = [*layer_walk(layers, days, last), (last, None)]
    signs = [sign for _, sign in walk]
    met = {}
    for day, (pair, _) in enumerate(walk):
        if pair in met:
            return signs[:met[pair]], signs[met[pair]:day]
        met[pair] = day
    return None


def greatest_gap(a, b):
    """The greatest gap and a shortest life that has it, or None and a pair (lead, ring)."""
    check_alike(a, b)
    steps = steps_of(a, b)
    layers = gap_layers(steps)
    if len(layers) > len(steps):
        lead, ring = gaining_ring(layers)
        return None, (named(a.signs, lead), named(a.signs, ring))
    greatest, days, last = 0, 0, 0
    for many, layer in enumerate(layers):
        for pair, (gap, _, _) in layer.items():
            if gap > greatest:
                greatest, days, last = gap, many, pair
    return greatest, named(a.signs, [sign for _, sign in layer_walk(layers, days, last)])


def unlike_pairs(rows):
    """The pairs (greater, lesser) of states of a rule with the fewest states, with nothing ahead."""
    return {(one, other): None for one in range(len(rows)) for other in range(one)}


def pairs_later(rows, pairs):
    """The pairs of different states to which one more day leads these, with (pair ahead, sign)."""
    later = {}
    for one, other in pairs:
        for sign, turn in enumerate(rows[one]):
            beside = rows[other][sign]
            led = (turn[1], beside[1]) if turn[1] > beside[1] else (beside[1], turn[1])
            if led[0] != led[1] and led not in later:
                later[led] = ((one, other), sign)
    return later


def remembers(rule):
    """The least number of days that the rule remembers, or None."""
    rows = least_rows(rule.rows)
    pairs = unlike_pairs(rows)
    days = 0
    while len(pairs) > 0:
        later = pairs_later(rows, pairs)
        # Each day leads only to pairs that were there before, so when none goes, none ever will.
        if len(later) == len(pairs):
            return None
        pairs = later
        days += 1
    return days


def mixed_up(rule, days):
    """None if the rule remembers so many days, else lives (life, other, common, further)."""
    check_number("days", days, 0, MOST_REMEMBERED)
    rows = least_rows(rule.rows)
    layers = [unlike_pairs(rows)]
    for _ in range(days):
        layers.append(pairs_later(rows, layers[-1]))
    pair = next(iter(layers[-1]), None)
    if pair is None:
        return None
    further = unequal_track(rows, rows, pair)
    common = []
    for layer in layers[:0:-1]:
        pair, sign = layer[pair]
        common.append(sign)
    tracks = (track_into(rows, pair[0]), track_into(rows, pair[1]), common[::-1], further)
    return tuple([named(rule.signs, track) for track in tracks])


def track_into(rows, state):
    """As few signs as possible that lead a rule with the fewest states into this state."""
    # Such a rule numbers its states in the order of coming, and so do its pairs with itself.
    return track_to(walked_pairs(rows, rows), state)


def lives(signs, days):
    """All lives of so many days, in the order of the signs, the last day changing quickest."""
    check_number("days", days, 0, MOST_LISTED)
    found = [()]
    for _ in range(days):
        found = [(*life, sign) for life in found for sign in signs]
    for life in found:
        yield life
