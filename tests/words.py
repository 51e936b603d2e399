"""The document's words done slowly, with exact fractions of units, to compare the package with."""

from fractions import Fraction
from itertools import combinations_with_replacement, product


def since_by_words(row, i, x):
    """Units since the letter x, or the begin, at event number i of the row, or None."""
    grain, events = row
    if x == "":
        return Fraction(events[i][1], grain)
    ahead = [k for k in range(i) if events[k][0] == x]
    return Fraction(events[i][1] - events[ahead[-1]][1], grain) if ahead else None


def holds_by_words(limit, units):
    """Whether the limit holds if its letter came so many units ago, or never (None)."""
    _, least, most = limit
    if least is None:
        return units is None
    if units is None:
        return False
    if units < least[0] or (least[1] and units == least[0]):
        return False
    return most is None or units < most[0] or (units == most[0] and not most[1])


def after_by_words(machine, row):
    """The states behind the row, one step at a time."""
    letters, many, starts, ends, steps = machine
    places = [(state, 0) for state in starts]
    for state, i in places:
        if i == len(row[1]):
            continue
        for s, a, limits, t in steps:
            if s == state and a == row[1][i][0] and (t, i + 1) not in places and all(
                    holds_by_words(limit, since_by_words(row, i, limit[0])) for limit in limits):
                places.append((t, i + 1))
    return sorted(state for state, i in places if i == len(row[1]))


def lets_by_words(machine, row):
    return any(state in machine[3] for state in after_by_words(machine, row))


def spot_by_words(units, m):
    """What machines whose numbers are at most m can tell of so many units, or None: at a number, behind one, or never."""
    if units is None:
        return "never"
    if units > m:
        return "more"
    return ("just" if units == units // 1 else "behind", units // 1)


def alike_by_words(row, other, m):
    """Whether two rows are alike for m, event by event."""
    if [a for a, _ in row[1]] != [a for a, _ in other[1]]:
        return False
    names = [""] + sorted({a for a, _ in row[1]})
    return all(spot_by_words(since_by_words(row, i, x), m) == spot_by_words(since_by_words(other, i, x), m)
               for i in range(len(row[1])) for x in names)


def look_by_words(agos, m):
    """The look where each entry came so many units ago, or never (None)."""
    counted = [ago for ago in agos if ago is not None and ago <= m]
    unlike = {ago % 1 for ago in counted if ago % 1 != 0}
    entries = []
    for ago in agos:
        if ago is None:
            entries.append(None)
        elif ago > m:
            entries.append((m + 1, 0))
        else:
            entries.append((int(ago // 1), len([part for part in unlike if part <= ago % 1])))
    return tuple(entries)


def waits_by_words(agos, m):
    """Waits from these times on, in units: each at which something is whole, and one between each two."""
    told = [ago for ago in agos if ago is not None]
    whole = sorted({k - ago for ago in told for k in range(m + 3) if k >= ago} | {Fraction(0)})
    waits = []
    for k, wait in enumerate(whole):
        behind = whole[k + 1] if k + 1 < len(whole) else wait + 1
        waits += [wait, (wait + behind) / 2]
    return waits


def waited(agos, wait):
    """The times so much later."""
    return tuple(None if ago is None else ago + wait for ago in agos)


def looks_by_words(agos, m):
    """The looks that come one behind the other from these times on."""
    looks = []
    for wait in waits_by_words(agos, m):
        entry = look_by_words(waited(agos, wait), m)
        if not looks or looks[-1] != entry:
            looks.append(entry)
    return looks


def agos_by_words(row, letters):
    """How many units ago the begin and each letter came at the moment of the last event, behind it."""
    grain, events = row
    now = events[-1][1] if events else 0
    agos = [Fraction(now, grain)]
    for x in letters:
        times = [time for letter, time in events if letter == x]
        agos.append(Fraction(now - times[-1], grain) if times else None)
    return tuple(agos)


def agos_of_look(look, m):
    """Times of which this is the look."""
    parts = max(entry[1] for entry in look if entry is not None) + 1
    return tuple(None if entry is None else entry[0] + Fraction(entry[1], parts) for entry in look)


def all_agos(size, m):
    """Enough times of so many entries for every look for m: the begin, that has come first, and letters."""
    parts = size + 1
    points = [Fraction(k, parts) for k in range((m + 1) * parts + 1)]
    for agos in product(points, *[[None] + points] * (size - 1)):
        if all(ago is None or ago <= agos[0] for ago in agos):
            yield agos


def greatest_by_words(*machines):
    """The greatest number in the limits of the machines, 0 if there is none."""
    numbers = [0]
    for machine in machines:
        for _, _, limits, _ in machine[4]:
            for _, least, most in limits:
                numbers += [edge[0] for edge in (least, most) if edge is not None]
    return max(numbers)


def letters_by_words(*machines):
    return "".join(sorted(set("".join(machine[0] for machine in machines))))


class Slow:
    """All places to which some machines go together, through all looks; a place is a set of states for each."""

    def __init__(self, *machines):
        self.machines = machines
        self.letters = letters_by_words(*machines)
        self.m = greatest_by_words(*machines)
        self.known = {}

    def start(self):
        """The place and the look ahead of all events."""
        return self.node([machine[2] for machine in self.machines], agos_by_words((1, ()), self.letters))

    def behind(self, row):
        """The place and the look behind a row."""
        return self.node([after_by_words(machine, row) for machine in self.machines], agos_by_words(row, self.letters))

    def node(self, sets, agos):
        return (tuple(tuple(sorted(states)) for states in sets), look_by_words(agos, self.m))

    def go(self, machine, states, a, agos):
        """The states to which one goes from these by the letter a."""
        ago = dict(zip(["", *self.letters], agos))
        return {t for s, letter, limits, t in machine[4]
                if s in states and letter == a and all(holds_by_words(limit, ago[limit[0]]) for limit in limits)}

    def next_nodes(self, node):
        """The nodes behind one more letter, which comes at once or later."""
        if node not in self.known:
            sets, look = node
            agos = agos_of_look(look, self.m)
            found = {}
            for wait in waits_by_words(agos, self.m):
                now = waited(agos, wait)
                for k, a in enumerate(self.letters):
                    there = [self.go(machine, states, a, now) for machine, states in zip(self.machines, sets)]
                    found[self.node(there, now[:k + 1] + (Fraction(0),) + now[k + 2:])] = True
            self.known[node] = list(found)
        return self.known[node]

    def levels(self, node):
        """By each node that is reached the least number of letters that lead there."""
        levels = {node: 0}
        line = [node]
        for node in line:
            for there in self.next_nodes(node):
                if there not in levels:
                    levels[there] = levels[node] + 1
                    line.append(there)
        return levels

    def truths(self, node):
        """Which of the machines let a row that leads to the node."""
        return tuple(any(s in machine[3] for s in states) for machine, states in zip(self.machines, node[0]))

    def all_truths(self, node):
        """The truths of all nodes that are reached from the node, ascending, each once."""
        return sorted({self.truths(there) for there in self.levels(node)})

    def least(self, truths):
        """The least number of letters of a row with one of these truths, or None."""
        levels = self.levels(self.start())
        return min([levels[node] for node in levels if self.truths(node) in truths], default=None)


def verdict_by_words(slow, row):
    """The verdict of a row, for the one machine of slow."""
    if not all(a in slow.letters for a, _ in row[1]):
        return "no"
    truths = slow.all_truths(slow.behind(row))
    return "open" if len(truths) == 2 else "yes" if truths[0][0] else "no"


def fine_rows(letters, most_events, m):
    """All rows with at most so many events, a grain of one more, and waits of at most m units and one tick."""
    for count in range(most_events + 1):
        grain = count + 1
        for waits in product(range(m * grain + 2), repeat=count):
            for word in product(letters, repeat=count):
                times = [sum(waits[:k + 1]) for k in range(count)]
                yield (grain, tuple(zip(word, times)))


def whole_rows(letters, count, most):
    """All rows of grain 1 with so many events, the last one at most so late."""
    for times in combinations_with_replacement(range(most + 1), count):
        for word in product(letters, repeat=count):
            yield (1, tuple(zip(word, times)))


def is_closed_by_words(one, other, table):
    """Whether this list of tuples (ones, others, look) of the right kinds is a closed table."""
    slow = Slow(one, other)
    nodes = {((ones, others), here) for ones, others, here in table}
    if len(nodes) < len(table) or slow.start() not in nodes:
        return False
    for node in nodes:
        if slow.truths(node) == (True, False):
            return False
        if any(there[0][0] and there not in nodes for there in slow.next_nodes(node)):
            return False
    return True


def readings(letters, m):
    """Enough readings for all limits with numbers of at most m: times by letter, None where it has not come."""
    points = [Fraction(k, 2) for k in range(2 * m + 2)]
    for agos in product(points, *[[None] + points] * len(letters)):
        yield dict(zip(["", *letters], agos))


def is_single_by_words(machine):
    """Whether there is at most one start, and no reading at which all limits of two steps hold."""
    letters, many, starts, ends, steps = machine
    if len(starts) > 1:
        return False
    for reading in readings(letters, greatest_by_words(machine)):
        places = [(s, a) for s, a, limits, _ in steps
                  if all(holds_by_words(limit, reading[limit[0]]) for limit in limits)]
        if len(places) > len(set(places)):
            return False
    return True
