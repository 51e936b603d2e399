"""Exact times for a way from look to look."""

from math import gcd


def spaces(entry, m, grain):
    """The least and the most ticks (or None) that an entry other than None lets be between two events."""
    units, fraction = entry
    if units > m:
        return m * grain + 1, None
    if fraction == 0:
        return units * grain, units * grain
    return units * grain + 1, units * grain + grain - 1


def rules_of(way, letters, m, grain):
    """Rules (i, j, ticks): number j comes at least so many ticks behind number i, the begin being number 0.

    One of the entries tells of the event just ahead, so that each event comes behind it or at its time.
    """
    rules = []
    last = {"": 0}
    for k, (moment, a) in enumerate(way):
        here = k + 1
        for x, entry in zip(["", *letters], moment):
            if entry is not None:
                least, most = spaces(entry, m, grain)
                rules.append((last[x], here, least))
                if most is not None:
                    rules.append((here, last[x], -most))
        last[a] = here
    return rules


def timed(way, letters, m):
    """A timed row with the letters of the way, at each of which the limits see what they see at its moment."""
    # so many ticks to the unit are enough to keep the fractions of all events and of the begin apart
    grain = len(way) + 1
    rules = rules_of(way, letters, m, grain)
    times = [0] * grain
    moved = True
    while moved:
        moved = False
        for i, j, ticks in rules:
            if times[j] < times[i] + ticks:
                times[j] = times[i] + ticks
                moved = True
    return coarsest(grain, [(a, times[k + 1]) for k, (_, a) in enumerate(way)])


def coarsest(grain, events):
    """The row with as coarse a grain as its times let."""
    common = grain
    for _, time in events:
        common = gcd(common, time)
    return (grain // common, tuple([(a, time // common) for a, time in events]))
