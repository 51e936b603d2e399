"""Machines told back by rows that were seen: those that are left, and the row to ask next."""

from sinceclocks.comparing import parted
from sinceclocks.crowds import best_row
from sinceclocks.errors import NoMachines
from sinceclocks.machines import has_end, is_machine, states_behind, steps_by_place
from sinceclocks.rows import check_told


def left(machines, told):
    """The numbers, ascending, of the machines that let just those of the told rows that are told with True."""
    check_machines(machines)
    check_told(told)
    return [k for k, machine in enumerate(machines) if does_as_told(machine, told)]


def check_machines(machines):
    """Raises NoMachines if machines is not a list or tuple of machines."""
    if not (isinstance(machines, (list, tuple)) and all([is_machine(machine) for machine in machines])):
        raise NoMachines("machines is not a list or tuple of machines")


def does_as_told(machine, told):
    """Whether the machine lets just those of the told rows that are told with True."""
    table = steps_by_place(machine)
    for row, truth in told:
        if has_end(machine, states_behind(machine, table, row)) != truth:
            return False
    return True


def next_row(machines, told):
    """A row behind which the fewest machines are left, and how many at the most; or None if all left let the same."""
    there = [machines[k] for k in left(machines, told)]
    if len(there) < 2:
        return None
    if len(there) > 2:
        return best_row(there)
    # two may be large, and the states of one are then better followed singly; each row that parts them leaves one
    row = parted(there[0], there[1])
    return None if row is None else (row, 1)
