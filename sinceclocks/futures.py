"""What can still come behind a row."""

from sinceclocks.looks import came, later, look
from sinceclocks.machines import states_behind, steps_by_place
from sinceclocks.pairs import Pair, leads_to_fault
from sinceclocks.rows import end_of, last_times


class Futures:
    """Whether some rows with a machine's letters that go on from a place are let, and whether some are not."""

    def __init__(self, machine):
        letters = machine[0]
        none = (letters, 1, (), (), ())
        all_rows = (letters, 1, (0,), (0,), tuple([(0, a, (), 0) for a in letters]))
        self.machine = machine
        self.table = steps_by_place(machine)
        self.letting = Pair(machine, none, True)
        self.failing = Pair(all_rows, machine, True)
        self.m = self.letting.m

    def can_let(self, states, here):
        """Whether a row is let that goes on from these states at the look, or ends there."""
        return leads_to_fault(self.letting, self.letting.nodes(states, (), here))

    def can_fail(self, states, here):
        """Whether a row is not let that goes on from these states at the look, or ends there."""
        return leads_to_fault(self.failing, self.failing.nodes((0,), states, here))

    def is_sure(self, states, here, let):
        """Whether all rows are let, or none if let is False, that go on from these states at the look, or end there."""
        return not (self.can_fail(states, here) if let else self.can_let(states, here))

    def place(self, row):
        """The states behind the row, none if some event has another letter, and the look there."""
        return tuple(states_behind(self.machine, self.table, row)), look(row, self.machine[0], self.m)

    def behind(self, states, moment, a):
        """The states and the look behind the letter a of the machine that comes at the moment."""
        return self.letting.one.go(states, moment, a), came(moment, self.machine[0], a)

    def has_hope(self, row):
        """Whether the verdict of the row is not "no"."""
        states, here = self.place(row)
        return self.can_let(states, here)

    def verdict(self, row):
        """The verdict of the row."""
        states, here = self.place(row)
        if not self.can_let(states, here):
            return "no"
        return "open" if self.can_fail(states, here) else "yes"

    def waits(self, row):
        """The stretches of waits at whose looks nothing changes, ascending, each with its look.

        All letters of the row must be the machine's, so that something is just 0 units ago behind the row.
        """
        _, here = self.place(row)
        ticks = changes(row, self.m)
        stretches = []
        for k, tick in enumerate(ticks):
            following = (ticks[k + 1], True) if k + 1 < len(ticks) else None
            stretches += [((tick, False), (tick, False)), ((tick, True), following)]
        return list(zip(stretches, later(here, self.m)))


def changes(row, m):
    """The waits, in ticks, ascending, at which the begin or a letter of the row is just 0 to m units ago."""
    grain, events = row
    now = end_of(events)
    moments = [time + units * grain for time in last_times(events).values() for units in range(m + 1)]
    return sorted({moment - now for moment in moments if moment >= now})
