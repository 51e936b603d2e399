"""Two machines that read the same rows, from look to look."""

from sinceclocks.looks import came, later, look
from sinceclocks.numbering import Numbers
from sinceclocks.steps import Steps, greatest_number, joint_letters


class Pair:
    """The places of two machines, states of one beside states of other, and where letters lead from them.

    A fault is a place where one lets the row and other does not. Letters that lead one nowhere lead to no place.
    If apart is True, the states of one are followed singly: that finds the same faults, and meets fewer places.
    Places, looks and choices of steps are numbered, and what is worked out for them is kept.
    """

    def __init__(self, one, other, apart):
        self.letters = joint_letters(one, other)
        self.m = max(greatest_number(one), greatest_number(other))
        self.one, self.other = Steps(one, self.letters), Steps(other, self.letters)
        self.one_ends, self.other_ends = one[3], other[3]
        self.apart = apart
        self.places, self.looks, self.choices = Numbers(), Numbers(), Numbers()
        self.kept_faults, self.kept_moves, self.kept_ways, self.barren = {}, {}, {}, {}

    def nodes(self, ones, others, here):
        """The places with these states, each beside the look, as numbers."""
        return [(place, self.looks.number(here)) for place in self.places_of(ones, others)]

    def places_of(self, ones, others):
        """The places with these states: one alone, or one for each state of one."""
        if self.apart:
            return [self.places.number(((s,), others)) for s in ones]
        return [self.places.number((ones, others))]

    def is_fault(self, place):
        """Whether one is at an end there, and other is not."""
        if place not in self.kept_faults:
            ones, others = self.places.things[place]
            lets = any([s in self.one_ends for s in ones])
            self.kept_faults[place] = lets and not any([s in self.other_ends for s in others])
        return self.kept_faults[place]

    def moves(self, here):
        """What letters do at the look or later: a choice of steps, the look behind, a moment and letter for these."""
        if here not in self.kept_moves:
            self.kept_moves[here] = self.found_moves(self.looks.things[here])
        return self.kept_moves[here]

    def found_moves(self, here):
        """The moves from the look; of those that do the same the first one alone."""
        found = {}
        for moment in later(here, self.m):
            holding, others_holding = self.one.holding(moment), self.other.holding(moment)
            for a in self.letters:
                chosen = holding & self.one.with_letter[a]
                if chosen > 0:
                    choice = self.choices.number((chosen, others_holding & self.other.with_letter[a]))
                    behind = self.looks.number(came(moment, self.letters, a))
                    found.setdefault((choice, behind), (moment, a))
        return [(choice, behind, move) for (choice, behind), move in found.items()]

    def ways(self, place, choice):
        """The places to which one goes from the place by the choice of steps."""
        if (place, choice) not in self.kept_ways:
            ones, others = self.places.things[place]
            chosen, others_chosen = self.choices.things[choice]
            ones, others = self.one.behind(ones, chosen), self.other.behind(others, others_chosen)
            self.kept_ways[(place, choice)] = self.places_of(ones, others) if ones else []
        return self.kept_ways[(place, choice)]


def first_nodes(pair, one, other):
    """The nodes of the pair of one and other ahead of all events."""
    return pair.nodes(one[2], other[2], look((1, ()), pair.letters, pair.m))


def search(pair, nodes):
    """The shortest way, moments and letters, from the nodes to a fault, or None; and all nodes that were met.

    A node is a place beside a look, both as numbers.
    """
    back = {node: None for node in nodes}
    line = list(back)
    at = 0
    while at < len(line):
        node = line[at]
        at += 1
        if pair.is_fault(node[0]):
            return way_to(node, back), line
        for choice, behind, move in pair.moves(node[1]):
            for place in pair.ways(node[0], choice):
                if (place, behind) not in back:
                    back[(place, behind)] = (node, move)
                    line.append((place, behind))
    return None, line


def leads_to_fault(pair, nodes):
    """Whether a way leads from the nodes to a fault.

    Nodes that lead to none are kept, so that rows that go on and on do not search the same again and again.
    """
    fresh = [node for node in nodes if node not in pair.barren]
    way, met = search(pair, fresh)
    if way is None:
        for node in met:
            pair.barren[node] = True
    return way is not None


def way_to(node, back):
    """The moves to the node, the first one first."""
    way = []
    while back[node] is not None:
        node, move = back[node]
        way.append(move)
    return way[::-1]
