"""The steps of one machine at looks: which of them can be taken, and where they lead."""

from sinceclocks.machines import holds


def greatest_number(machine):
    """The greatest number in the limits of the machine, 0 if there is none."""
    limits = [limit for step in machine[4] for limit in step[2]]
    edges = [edge for limit in limits for edge in limit[1:] if edge is not None]
    return max([units for units, _ in edges], default=0)


def joint_letters(one, other):
    """All letters of the two machines, ascending, each once."""
    return "".join(sorted(set(one[0] + other[0])))


class Steps:
    """The steps of a machine, seen from looks of these letters; several steps are written as one bit for each."""

    def __init__(self, machine, letters):
        self.steps = machine[4]
        self.names = ["", *letters]
        self.with_letter = {a: self.bits([step[1] == a for step in self.steps]) for a in letters}
        self.kept_holding = {}
        self.kept_arrows = {}

    def bits(self, truths):
        """The bits of the steps of which it is true."""
        return sum([1 << k for k, truth in enumerate(truths) if truth])

    def holding(self, look):
        """The steps all of whose limits hold at the look."""
        held = -1
        for x, entry in zip(self.names, look):
            # limits do not ask which fraction it is
            told = entry if entry is None else (entry[0], min(entry[1], 1))
            if (x, told) not in self.kept_holding:
                self.kept_holding[(x, told)] = self.holding_of(x, told)
            held = held & self.kept_holding[(x, told)]
        return held

    def holding_of(self, x, entry):
        """The steps whose limits on x hold at the entry."""
        return self.bits([all([holds(limit, entry) for limit in step[2] if limit[0] == x]) for step in self.steps])

    def go(self, states, look, a):
        """The states, ascending, to which one goes from these by the letter a at the look."""
        return self.behind(states, self.holding(look) & self.with_letter[a])

    def behind(self, states, chosen):
        """The states, ascending, to which one goes from these by the chosen steps."""
        if chosen not in self.kept_arrows:
            self.kept_arrows[chosen] = self.arrows(chosen)
        arrows = self.kept_arrows[chosen]
        return tuple(sorted({t for s in states for t in arrows.get(s, [])}))

    def arrows(self, chosen):
        """By each state those to which the chosen steps lead from it."""
        found = {}
        for k, (s, _, _, t) in enumerate(self.steps):
            if chosen & (1 << k):
                found.setdefault(s, []).append(t)
        return found
