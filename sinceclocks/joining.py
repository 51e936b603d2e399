"""Machines made single, turned about, and put together."""

from sinceclocks.boxes import are_apart, box_of, cells, is_empty, last_spot, limits_of, meeting
from sinceclocks.machines import check_machine
from sinceclocks.numbering import Numbers
from sinceclocks.steps import greatest_number, joint_letters


def is_single(machine):
    """Whether the machine has at most one start, and no two steps from a state by a letter hold at one reading."""
    check_machine(machine)
    table = boxes_by_place(machine, last_spot(greatest_number(machine)))
    return len(machine[2]) <= 1 and all([lie_apart([box for box, _ in arrows]) for arrows in table.values()])


def boxes_by_place(machine, last):
    """The box and the state behind each step that can be taken, by the state ahead of it and its letter."""
    table = {}
    for s, a, limits, t in machine[4]:
        box = box_of(limits, last)
        if not is_empty(box):
            table.setdefault((s, a), []).append((box, t))
    return table


def lie_apart(boxes):
    """Whether no two of the boxes have a reading in common."""
    for k, box in enumerate(boxes):
        if not all([are_apart(box, other) for other in boxes[:k]]):
            return False
    return True


def single(machine):
    """A single machine with the same letters that lets just the rows that the machine lets."""
    if is_single(machine):
        return machine
    return singled(machine, False)


def turned(machine):
    """A single machine with the same letters that lets just the rows of them that the machine does not let."""
    check_machine(machine)
    return singled(machine, True)


def singled(machine, turn):
    """A single machine whose states are sets of those of the machine; if turn is True, the other ones are its ends."""
    letters, _, starts, ends, _ = machine
    last = last_spot(greatest_number(machine))
    table = boxes_by_place(machine, last)
    sets, steps, at = Numbers(), [], 0
    sets.number(starts)
    while at < len(sets.things):
        for a in letters:
            arrows = [arrow for s in sets.things[at] for arrow in table.get((s, a), [])]
            for ranges, targets in cells(arrows, ["", *letters], last):
                # only a turned machine needs a state for being nowhere
                if turn or targets:
                    steps.append((at, a, limits_of(ranges, last), sets.number(targets)))
        at += 1
    let = [any([s in ends for s in states]) for states in sets.things]
    return (letters, at, (0,), tuple([k for k in range(at) if let[k] != turn]), tuple(steps))


def both(one, other):
    """A machine that lets just the rows that both let."""
    check_machine(one)
    check_machine(other)
    last = last_spot(max(greatest_number(one), greatest_number(other)))
    table, others = boxes_by_place(one, last), boxes_by_place(other, last)
    places, steps, at = Numbers(), [], 0
    starts = [places.number((s, t)) for s in one[2] for t in other[2]]
    while at < len(places.things):
        s, t = places.things[at]
        for a in one[0]:
            for box, there in arrows_of_both(table.get((s, a), []), others.get((t, a), [])):
                steps.append((at, a, limits_of(list(box.items()), last), places.number(there)))
        at += 1
    ends = [k for k, (s, t) in enumerate(places.things) if s in one[3] and t in other[3]]
    # a machine has a state even where there is nothing to begin with
    return (joint_letters(one, other), max(at, 1), tuple(starts), tuple(ends), tuple(steps))


def arrows_of_both(arrows, others):
    """The boxes that two arrows have in common, each with the two states behind."""
    met = [(meeting(box, other), (there, beside)) for box, there in arrows for other, beside in others]
    return [(box, there) for box, there in met if not is_empty(box)]


def either(one, other):
    """A machine that lets just the rows that one of both lets, or both."""
    check_machine(one)
    check_machine(other)
    shift = one[1]
    starts, ends = [one[k] + tuple([s + shift for s in other[k]]) for k in [2, 3]]
    steps = one[4] + tuple([(s + shift, a, limits, t + shift) for s, a, limits, t in other[4]])
    return (joint_letters(one, other), shift + other[1], starts, ends, steps)
