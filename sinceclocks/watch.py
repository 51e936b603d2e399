"""A watch: a row that is kept while its events come and are taken back."""

from sinceclocks.checks import check_letter, is_number
from sinceclocks.errors import NoGrain, NoNumber, NoWait
from sinceclocks.futures import Futures
from sinceclocks.machines import after, check_machine
from sinceclocks.rows import end_of, is_event


class Watch:
    """A machine, and a row with a grain, without events at first."""

    def __init__(self, machine, grain):
        check_machine(machine)
        if not is_number(grain, 1):
            raise NoGrain("grain is not a number from 1 on")
        self.machine = machine
        self.grain = grain
        # never changed but replaced, so that an iteration keeps the events with which it began
        self.events = ()
        self.futures = Futures(machine)

    def come(self, a, wait):
        """Has the letter come so many ticks behind the last event, and returns the verdict behind it."""
        check_letter(a)
        check_wait(wait)
        self.events = self.events_with(a, wait)
        return self.verdict()

    def events_with(self, a, wait):
        """The events, and behind them the letter that comes so many ticks later."""
        return self.events + ((a, end_of(self.events) + wait),)

    def verdict(self):
        """The verdict of the row."""
        return self.futures.verdict(self.row())

    def states(self):
        """The states, ascending, in which the machine can be behind the row."""
        return after(self.machine, self.row())

    def row(self):
        """The timed row."""
        return (self.grain, self.events)

    def hopes(self, wait):
        """The letters of the machine, ascending, that can come so many ticks later without the verdict "no"."""
        check_wait(wait)
        rows = [(a, (self.grain, self.events_with(a, wait))) for a in self.machine[0]]
        return [a for a, row in rows if self.futures.has_hope(row)]

    def back(self):
        """Takes back the last event, and returns whether there was one."""
        if not self.events:
            return False
        self.events = self.events[:-1]
        return True

    def __len__(self):
        return len(self.events)

    def __getitem__(self, at):
        if not (is_number(at, 0) and at < len(self.events)):
            raise NoNumber("not the number of an event of the row")
        return self.events[at]

    def __contains__(self, x):
        # a tuple with True in the place of 1 is equal to an event for Python, but none here
        return is_event(x) and x in self.events

    def __iter__(self):
        return iter(self.events)

    def __eq__(self, other):
        return (isinstance(other, Watch) and self.machine == other.machine and self.grain == other.grain
                and self.events == other.events)

    def __ne__(self, other):
        return not self == other


def check_wait(wait):
    """Raises NoWait if wait is not a number from 0 on."""
    if not is_number(wait, 0):
        raise NoWait("wait is not a number from 0 on")
