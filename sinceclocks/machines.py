"""Machines: states and steps, with limits on how long ago each letter came last."""

from sinceclocks.checks import is_letter_of, is_letters, is_number, is_tuple
from sinceclocks.errors import NoMachine
from sinceclocks.rows import check_row


def is_machine(thing):
    """Whether the thing, anything, is a machine."""
    if not is_tuple(thing, 5):
        return False
    letters, many, starts, ends, steps = thing
    if not (is_letters(letters) and is_number(many, 1) and isinstance(steps, tuple)):
        return False
    if not (are_states(starts, many) and are_states(ends, many)):
        return False
    return all([is_step(step, letters, many) for step in steps])


def is_state(thing, many):
    """Whether the thing is one of so many states."""
    return is_number(thing, 0) and thing < many


def are_states(thing, many):
    """Whether the thing is a tuple of states, ascending, each once."""
    if not isinstance(thing, tuple) or not all([is_state(state, many) for state in thing]):
        return False
    return all([thing[k] < thing[k + 1] for k in range(len(thing) - 1)])


def is_step(thing, letters, many):
    """Whether the thing is a step of a machine with these letters and so many states."""
    if not is_tuple(thing, 4):
        return False
    s, a, limits, t = thing
    if not (is_state(s, many) and is_letter_of(a, letters) and is_state(t, many)):
        return False
    return isinstance(limits, tuple) and all([is_limit(limit, letters) for limit in limits])


def is_limit(thing, letters):
    """Whether the thing is a limit on one of these letters or on the begin."""
    if not is_tuple(thing, 3):
        return False
    x, least, most = thing
    if not (is_letter_of(x, letters) or x == ""):
        return False
    if least is None:
        # the begin has always come, so that it has no such limit
        return most is None and x != ""
    return is_edge(least) and (most is None or is_edge(most))


def is_edge(thing):
    """Whether the thing is a tuple of a number of units and of whether it is sharp."""
    return is_tuple(thing, 2) and is_number(thing[0], 0) and isinstance(thing[1], bool)


def check_machine(machine):
    """Raises NoMachine if machine is not a machine."""
    if not is_machine(machine):
        raise NoMachine("not a machine")


def holds(limit, ago):
    """Whether the limit holds if its letter came so long ago: whole units and a fraction, or None for never."""
    _, least, most = limit
    if least is None or ago is None:
        return least is None and ago is None
    return reaches(ago, least) and (most is None or keeps(ago, most))


def reaches(ago, least):
    """Whether so long ago is at least the number of least, or more if it is sharp."""
    units, sharp = least
    return ago > (units, 0) if sharp else ago >= (units, 0)


def keeps(ago, most):
    """Whether so long ago is at most the number of most, or less if it is sharp."""
    units, sharp = most
    return ago < (units, 0) if sharp else ago <= (units, 0)


def all_hold(limits, agos):
    """Whether all limits hold; agos tells by letter how long ago each one came that has come."""
    for limit in limits:
        if not holds(limit, agos.get(limit[0])):
            return False
    return True


def steps_by_place(machine):
    """The limits and the state behind each step, by the state ahead of it and its letter."""
    table = {}
    for s, a, limits, t in machine[4]:
        table.setdefault((s, a), []).append((limits, t))
    return table


def next_states(table, states, a, agos):
    """The states, ascending, to which one goes from these by the letter a; table as of steps_by_place."""
    return sorted({t for s in states for limits, t in table.get((s, a), []) if all_hold(limits, agos)})


def after(machine, row):
    """The states, ascending, in which the machine can be behind the row."""
    check_machine(machine)
    check_row(row)
    return states_behind(machine, steps_by_place(machine), row)


def states_behind(machine, table, row):
    """The states, ascending, in which the machine can be behind the row; table as of steps_by_place."""
    grain, events = row
    states = list(machine[2])
    times = {"": 0}
    for letter, time in events:
        agos = {x: divmod(time - times[x], grain) for x in times}
        states = next_states(table, states, letter, agos)
        times[letter] = time
    return states


def lets(machine, row):
    """Whether the machine can be in one of its ends behind the row."""
    return has_end(machine, after(machine, row))


def has_end(machine, states):
    """Whether one of the states is an end of the machine."""
    return len(set(states) & set(machine[3])) > 0
