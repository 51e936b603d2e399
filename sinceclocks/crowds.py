"""Some machines that read the same rows, and rows of which few machines have the same truth."""

from sinceclocks.joining import either
from sinceclocks.pairs import Pair, first_nodes, search
from sinceclocks.timing import timed


class Crowd(Pair):
    """The places of some machines that go together, as one machine whose states are those of all of them.

    A fault is here a place behind which at most as many machines as wanted are left, whichever truth of the row is
    told. Letters that lead none of the machines anywhere lead to no place: no machine lets a row that goes on so.
    """

    def __init__(self, machines):
        joined, self.owners = machines[0], {s: 0 for s in machines[0][3]}
        for k in range(1, len(machines)):
            for s in machines[k][3]:
                self.owners[joined[1] + s] = k
            joined = either(joined, machines[k])
        nothing = (joined[0], 1, (), (), ())
        super().__init__(joined, nothing, False)
        self.starts = first_nodes(self, joined, nothing)
        self.count = len(machines)
        self.wanted = 0

    def is_fault(self, place):
        """Whether at most as many machines as wanted have the same truth there."""
        states, _ = self.places.things[place]
        letting = len({self.owners[s] for s in states if s in self.owners})
        return max(letting, self.count - letting) <= self.wanted

    def way_with(self, wanted):
        """The shortest way behind which at most so many machines have the same truth, or None."""
        self.wanted = wanted
        way, _ = search(self, self.starts)
        return way


def best_row(machines):
    """A row of which as few machines as can be have the same truth, and how many, or None if all have always.

    Of these rows it is one with as few events as there can be. There is at least one machine.
    """
    crowd, count = Crowd(machines), len(machines)
    for wanted in range((count + 1) // 2, count):
        way = crowd.way_with(wanted)
        if way is not None:
            return (timed(way, crowd.letters, crowd.m), wanted)
    return None
