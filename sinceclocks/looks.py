"""Looks: what limits can tell of the letters' times, whole units and the order of the fractions."""

from sinceclocks.checks import check_bound, check_letters, is_letter_of, is_number, is_tuple
from sinceclocks.errors import NoLetter, NoLook
from sinceclocks.rows import check_row, end_of, last_times

# one for the begin, and one for each letter from a to z
MOST_ENTRIES = 27


def is_entry(thing):
    """Whether the thing is None or a tuple of two numbers from 0 on."""
    return thing is None or (is_tuple(thing, 2) and is_number(thing[0], 0) and is_number(thing[1], 0))


def is_look(thing):
    """Whether the thing is a look for some letters and some m, however great."""
    if not (isinstance(thing, tuple) and 2 <= len(thing) <= MOST_ENTRIES):
        return False
    if thing[0] is None or not all([is_entry(entry) for entry in thing]):
        return False
    told = [entry for entry in thing if entry is not None]
    if not all([entry <= thing[0] for entry in told]):
        return False
    fractions = [r for _, r in told if r > 0]
    # so many unlike numbers from 1 to the greatest one: none is left out, and no great one is counted up to
    return max(fractions, default=0) == len(set(fractions))


def keeps_bound(look, m):
    """Whether each entry of the look, one for some m, is one for this m too."""
    told = [entry for entry in look if entry is not None]
    return all([w < m or (w <= m + 1 and r == 0) for w, r in told])


def ranked(entries):
    """The look that tells of these entries, whose fractions are in order but not yet numbered."""
    unlike = [0] + sorted({entry[1] for entry in entries if entry is not None and entry[1] > 0})
    return tuple([entry if entry is None else (entry[0], unlike.index(entry[1])) for entry in entries])


def seen(ticks, grain, m):
    """The entry, its fraction not yet numbered, of what came so many ticks ago."""
    return (m + 1, 0) if ticks > m * grain else divmod(ticks, grain)


def look(row, letters, m):
    """The look at the moment of the row's last event, or of the begin, behind it."""
    check_row(row)
    check_letters(letters)
    check_bound(m)
    grain, events = row
    times = last_times(events)
    now = end_of(events)
    names = ["", *letters]
    return ranked([seen(now - times[x], grain, m) if x in times else None for x in names])


def just_behind(entry, m):
    """What becomes of an entry as soon as time goes by where some entry is whole, not yet numbered."""
    if entry is None or entry[0] > m:
        return entry
    return (m + 1, 0) if entry[0] == m else (entry[0], entry[1] + 1)


def up_to_whole(entry, greatest):
    """What becomes of an entry as soon as those with the greatest fraction, not 0, are whole again."""
    if entry is None or entry[1] < greatest:
        return entry
    return (entry[0] + 1, 0)


def next_look(look, m):
    """The look that comes next while time goes by, or None if nothing changes any more."""
    moving = [entry for entry in look if entry is not None and entry[0] <= m]
    if not moving:
        return None
    greatest = max([r for _, r in moving])
    if 0 in [r for _, r in moving]:
        return ranked([just_behind(entry, m) for entry in look])
    return tuple([up_to_whole(entry, greatest) for entry in look])


def later(look, m):
    """The list of all looks that come one behind the other while no letter comes, this one first."""
    check_bound(m)
    if not (is_look(look) and keeps_bound(look, m)):
        raise NoLook("look is not a look for m")
    looks = []
    while look is not None:
        looks.append(look)
        look = next_look(look, m)
    return looks


def came(look, letters, a):
    """The look behind the letter a that comes at once."""
    check_letters(letters)
    if not (is_look(look) and len(look) == len(letters) + 1):
        raise NoLook("look is not a look of letters")
    if not is_letter_of(a, letters):
        raise NoLetter("a is not a letter of letters")
    at = letters.index(a) + 1
    return ranked(look[:at] + ((0, 0),) + look[at + 1:])
