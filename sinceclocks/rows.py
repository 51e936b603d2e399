"""Timed rows: letters with exact times, a grain of ticks to the unit."""

from sinceclocks.checks import is_letter, is_number, is_tuple
from sinceclocks.errors import NoLetter, NoNumber, NoRow, NoTold


def is_row(thing):
    """Whether the thing, anything, is a timed row."""
    if not is_tuple(thing, 2):
        return False
    grain, events = thing
    if not (is_number(grain, 1) and isinstance(events, tuple)):
        return False
    if not all([is_event(event) for event in events]):
        return False
    return all([events[k][1] <= events[k + 1][1] for k in range(len(events) - 1)])


def is_event(thing):
    """Whether the thing is a tuple of a letter and a time."""
    return is_tuple(thing, 2) and is_letter(thing[0]) and is_number(thing[1], 0)


def check_row(row):
    """Raises NoRow if row is not a timed row."""
    if not is_row(row):
        raise NoRow("not a timed row")


def is_told(thing):
    """Whether the thing is a tuple of a timed row and of whether it is to be let."""
    return is_tuple(thing, 2) and is_row(thing[0]) and isinstance(thing[1], bool)


def check_told(told):
    """Raises NoTold if told is not a list or tuple of told rows."""
    if not (isinstance(told, (list, tuple)) and all([is_told(thing) for thing in told])):
        raise NoTold("told is not a list or tuple of told rows")


def end_of(events):
    """The time of the last event, or that of the begin if there is none."""
    return events[-1][1] if events else 0


def last_times(events):
    """The time when each letter that has come came last, and that of the begin, by letter."""
    times = {"": 0}
    for letter, time in events:
        times[letter] = time
    return times


def since(row, i, x):
    """The ticks from the last event with the letter x ahead of event number i to this event, or None."""
    check_row(row)
    events = row[1]
    if not (is_number(i, 0) and i < len(events)):
        raise NoNumber("i is not the number of an event of the row")
    if not (is_letter(x) or x == ""):
        raise NoLetter("x is neither a letter nor the empty string")
    times = last_times(events[:i])
    if x not in times:
        return None
    return events[i][1] - times[x]
