"""Machines compared: rows that one lets and the other does not, or closed tables that there is none."""

from sinceclocks.checks import is_tuple
from sinceclocks.looks import is_look, keeps_bound
from sinceclocks.machines import are_states, check_machine
from sinceclocks.pairs import Pair, first_nodes, search
from sinceclocks.timing import timed


def first_row(machine):
    """A row with as few events as there can be that the machine lets, or None."""
    check_machine(machine)
    return within(machine, (machine[0], 1, (), (), ()))


def within(one, other):
    """None if other lets each row that one lets, else a row with as few events as there can be that shows it."""
    check_machine(one)
    check_machine(other)
    pair = Pair(one, other, True)
    way, _ = search(pair, first_nodes(pair, one, other))
    return None if way is None else timed(way, pair.letters, pair.m)


def parted(one, other):
    """None if both let the same rows, else a row with as few events as there can be that just one of them lets."""
    rows = [row for row in [within(one, other), within(other, one)] if row is not None]
    return min(rows, key=count_of_events, default=None)


def count_of_events(row):
    """The number of events of the row."""
    return len(row[1])


def compared(one, other):
    """("within", table) with a closed table of the two, or ("row", row) with a row as that of within."""
    check_machine(one)
    check_machine(other)
    pair = Pair(one, other, False)
    way, met = search(pair, first_nodes(pair, one, other))
    if way is not None:
        return ("row", timed(way, pair.letters, pair.m))
    return ("within", [pair.places.things[place] + (pair.looks.things[here],) for place, here in met])


def is_table(one, other, thing):
    """Whether the thing, anything, is a closed table of the two machines."""
    check_machine(one)
    check_machine(other)
    pair = Pair(one, other, False)
    if not (isinstance(thing, list) and all([is_line(part, one[1], other[1], pair) for part in thing])):
        return False
    nodes = [node for ones, others, here in thing for node in pair.nodes(ones, others, here)]
    known = set(nodes)
    if len(known) < len(nodes) or not all([node in known for node in first_nodes(pair, one, other)]):
        return False
    for place, here in nodes:
        ahead = [(there, behind) for choice, behind, _ in pair.moves(here) for there in pair.ways(place, choice)]
        if pair.is_fault(place) or not all([node in known for node in ahead]):
            return False
    return True


def is_line(thing, many, others_many, pair):
    """Whether the thing is a tuple of states of one, states of other, and a look of the pair."""
    if not is_tuple(thing, 3):
        return False
    ones, others, here = thing
    if not (are_states(ones, many) and are_states(others, others_many)):
        return False
    return is_look(here) and len(here) == len(pair.letters) + 1 and keeps_bound(here, pair.m)
