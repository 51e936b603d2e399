"""The document's words done slowly, with exact fractions of units, to compare the package with."""

from fractions import Fraction
from itertools import product


def since_by_words(row, i, x):
    """Units since the letter x, or the begin, at event number i of the row, or None."""
    grain, events = row
    if x == "":
        return Fraction(events[i][1], grain)
    ahead = [k for k in range(i) if events[k][0] == x]
    return Fraction(events[i][1] - events[ahead[-1]][1], grain) if ahead else None


def limit_holds(limit, row, i):
    x, least, most = limit
    units = since_by_words(row, i, x)
    if least is None:
        return units is None
    if units is None:
        return False
    if units < least[0] or (least[1] and units == least[0]):
        return False
    return most is None or units < most[0] or (units == most[0] and not most[1])


def after_by_words(machine, row):
    """The states behind the row, one way of steps at a time."""
    letters, many, starts, ends, steps = machine
    places = [(state, 0) for state in starts]
    found = {}
    while places:
        state, i = places.pop()
        if i == len(row[1]):
            found[state] = True
            continue
        for s, a, limits, t in steps:
            if s == state and a == row[1][i][0] and all(limit_holds(limit, row, i) for limit in limits):
                places.append((t, i + 1))
    return sorted(found)


def look_by_words(agos, m):
    """The look where each entry came so many units ago, or never (None)."""
    counted = [ago for ago in agos if ago is not None and ago <= m]
    unlike = {ago % 1 for ago in counted if ago % 1 != 0}
    entries = []
    for ago in agos:
        if ago is None:
            entries.append(None)
        elif ago > m:
            entries.append((m + 1, 0))
        else:
            entries.append((int(ago // 1), len([part for part in unlike if part <= ago % 1])))
    return tuple(entries)


def looks_by_words(agos, m):
    """The looks that come one behind the other from these times on: at each change, and between two."""
    told = [ago for ago in agos if ago is not None]
    whole = sorted({k - ago for ago in told for k in range(m + 3) if k >= ago} | {Fraction(0)})
    moments = []
    for k, moment in enumerate(whole):
        behind = whole[k + 1] if k + 1 < len(whole) else moment + 1
        moments += [moment, (moment + behind) / 2]
    looks = []
    for moment in moments:
        entry = look_by_words([None if ago is None else ago + moment for ago in agos], m)
        if not looks or looks[-1] != entry:
            looks.append(entry)
    return looks


def all_agos(size, m):
    """Enough times of so many entries for every look for m: the begin, that has come first, and letters."""
    parts = size + 1
    points = [Fraction(k, parts) for k in range((m + 1) * parts + 1)]
    for agos in product(points, *[[None] + points] * (size - 1)):
        if all(ago is None or ago <= agos[0] for ago in agos):
            yield agos
