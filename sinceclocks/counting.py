"""How many timed rows in whole units a machine lets."""

from sinceclocks.checks import is_number
from sinceclocks.errors import NoCount, NoMost
from sinceclocks.looks import came, look
from sinceclocks.machines import check_machine
from sinceclocks.steps import Steps, greatest_number


def how_many(machine, n, most):
    """The number of rows of grain 1 with n events, the last one at most units or earlier, that the machine lets."""
    check_machine(machine)
    if not is_number(n, 0):
        raise NoCount("n is not a number from 0 on")
    if not is_number(most, 0):
        raise NoMost("most is not a number from 0 on")
    letters, _, starts, ends, _ = machine
    m = greatest_number(machine)
    steps, kept = Steps(machine, letters), {}
    # at each place the rows so far with as many events, counted by the states behind them and the look there
    counts = [{(starts, look((1, ()), letters, m)): 1}] + [{} for _ in range(n)]
    for unit in range(most + 1):
        if unit > 0:
            counts = [a_unit_later(counted, m) for counted in counts]
        # a row that has just got an event may get the next one at the same time
        for k in range(n):
            add_letters(counts[k], counts[k + 1], steps, letters, kept)
    return sum([many for (states, _), many in counts[n].items() if any([s in ends for s in states])])


def a_unit_later(counted, m):
    """The counted rows a unit later, without an event."""
    moved = {}
    for (states, here), many in counted.items():
        there = tuple([entry if entry is None else (min(entry[0], m) + 1, 0) for entry in here])
        moved[(states, there)] = moved.get((states, there), 0) + many
    return moved


def add_letters(counted, longer, steps, letters, kept):
    """Adds the counted rows with one more event, now, to the longer ones; kept has what was worked out before."""
    for key, many in counted.items():
        if key not in kept:
            kept[key] = ways(key[0], key[1], steps, letters)
        for way in kept[key]:
            longer[way] = longer.get(way, 0) + many


def ways(states, here, steps, letters):
    """The states and the look behind each letter that comes now, but for letters that lead nowhere."""
    found = [(steps.go(states, here, a), came(here, letters, a)) for a in letters]
    return [(behind, there) for behind, there in found if behind]
