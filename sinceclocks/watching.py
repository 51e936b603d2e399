"""Rows as they come: what is sure of a row already, and when a letter can still come."""

from sinceclocks.checks import check_letter
from sinceclocks.futures import Futures
from sinceclocks.machines import check_machine, lets
from sinceclocks.rows import check_row


def verdict(machine, row):
    """What is sure of the row: "yes" or "no" if all or none of the rows of the machine's letters to which it goes on
    are let, else "open"."""
    check_machine(machine)
    check_row(row)
    return Futures(machine).verdict(row)


def decided(machine, row):
    """The least number of first events of the row behind which the verdict is not "open", or None if there is none."""
    check_machine(machine)
    check_row(row)
    futures = Futures(machine)
    grain, events = row
    for count in range(len(events) + 1):
        if futures.verdict((grain, events[:count])) != "open":
            return count
    return None


def windows(machine, row, a):
    """The stretches of waits, ascending, behind which the letter a can come so that the verdict is not "no"."""
    check_machine(machine)
    check_row(row)
    check_letter(a)
    futures = Futures(machine)
    states, _ = futures.place(row)
    if a not in machine[0] or not states:
        return []
    stretches, joined = [], False
    for (least, most), moment in futures.waits(row):
        behind, here = futures.behind(states, moment, a)
        hopeful = futures.can_let(behind, here)
        if hopeful and joined:
            stretches[-1] = (stretches[-1][0], most)
        elif hopeful:
            stretches.append((least, most))
        joined = hopeful
    return stretches


def silence(machine, row):
    """From which wait on, and of which word, the row is sure as long as no letter comes, or None if from none on."""
    check_machine(machine)
    check_row(row)
    futures = Futures(machine)
    states, _ = futures.place(row)
    if not states:
        return ((0, False), "no")
    let = lets(machine, row)
    first = None
    for (least, _), moment in futures.waits(row)[::-1]:
        if not is_sure_at(futures, states, moment, let):
            break
        first = least
    return None if first is None else (first, "yes" if let else "no")


def is_sure_at(futures, states, moment, let):
    """Whether all rows are let, or none if let is False, that go on by a letter that comes at the moment."""
    for a in futures.machine[0]:
        behind, here = futures.behind(states, moment, a)
        if not futures.is_sure(behind, here, let):
            return False
    return True
