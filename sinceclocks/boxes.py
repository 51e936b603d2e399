"""Limits as ranges of spots, and boxes of readings.

The times since a letter came are cut into spots: spot 2 * n are n units just, spot 2 * n + 1 lies between n and n + 1
units; the last spot are all times of more units than any limit names. One more spot tells that it has not come. A box
is a dict with ranges of spots, (low, high), for some letters or the begin: the readings that lie in all of them.
"""

# one below the spot of 0 units, so that each limit is one range
NOT_COME = -1


def last_spot(m):
    """The spot of more than m units."""
    return 2 * m + 1


def spot_of(ticks, grain, m):
    """The spot of so many ticks, for limits that name at most m units."""
    if ticks > m * grain:
        return last_spot(m)
    units, rest = divmod(ticks, grain)
    return 2 * units + (1 if rest > 0 else 0)


def range_of(limit, last):
    """The spots at which the limit holds; if the range ends ahead of its first spot, it never does."""
    _, least, most = limit
    if least is None:
        return (NOT_COME, NOT_COME)
    low = 2 * least[0] + (1 if least[1] else 0)
    if most is None:
        return (low, last)
    return (low, 2 * most[0] - (1 if most[1] else 0))


def box_of(limits, last):
    """The box of the readings at which all limits hold."""
    box = {}
    for limit in limits:
        box = meeting(box, {limit[0]: range_of(limit, last)})
    return box


def meeting(box, other):
    """The box of the readings that lie in both."""
    joined = {x: box[x] for x in box}
    for x, (low, high) in other.items():
        if x in joined:
            low, high = max(low, joined[x][0]), min(high, joined[x][1])
        joined[x] = (low, high)
    return joined


def is_empty(box):
    """Whether no reading lies in the box."""
    return any([low > high for low, high in box.values()])


def are_apart(box, other):
    """Whether no reading lies in both boxes, neither of which is empty."""
    return any([box[x][0] > other[x][1] or box[x][1] < other[x][0] for x in box if x in other])


def limits_of(ranges, last):
    """Limits that hold just where x is in its range for each (x, range) of ranges."""
    return tuple([limit_of(x, low, high, last) for x, (low, high) in ranges])


def limit_of(x, low, high, last):
    """The limit that holds for x at the spots from low to high, which are NOT_COME alone or others alone."""
    if high == NOT_COME:
        return (x, None, None)
    most = None if high == last else ((high + 1) // 2, high % 2 == 1)
    return (x, (low // 2, low % 2 == 1), most)


def cells(arrows, names, last):
    """Boxes that fill all readings and lie apart, each with the tuple of the targets that hold there.

    Arrows are tuples (box, target), and the target holds at the readings of its box. Each cell is a tuple (ranges,
    targets), with tuples (x, range) for ranges; only the letters of names, and the begin if it is one, are cut.
    """
    if not names:
        return [((), tuple(sorted({target for _, target in arrows})))]
    x, names = names[0], names[1:]
    if not any([x in box for box, _ in arrows]):
        return cells(arrows, names, last)
    slices = []
    for low, high in parts(arrows, x, last):
        deeper = cells([arrow for arrow in arrows if covers(arrow[0], x, low)], names, last)
        # no limit holds at NOT_COME and at some others too, so only others are joined
        if low > 0 and slices[-1][2] == deeper:
            low = slices.pop()[0]
        slices.append((low, high, deeper))
    if all([deeper == slices[0][2] for _, _, deeper in slices]):
        return slices[0][2]
    return [(((x, (low, high)),) + ranges, targets) for low, high, deeper in slices for ranges, targets in deeper]


def parts(arrows, x, last):
    """Ranges of spots, ascending, that fill all that x can have; in each of them a box has all spots or none."""
    ranges = [box[x] for box, _ in arrows if x in box]
    first = [0] if x == "" else [NOT_COME, 0]
    lows = first + [low for low, _ in ranges] + [high + 1 for _, high in ranges]
    cuts = sorted({low for low in lows if low <= last})
    return list(zip(cuts, [low - 1 for low in cuts[1:]] + [last]))


def covers(box, x, spot):
    """Whether the box has the spot of x."""
    return x not in box or box[x][0] <= spot <= box[x][1]
