"""What machines can see: rows that are alike for all of them, and machines that fit told rows."""

from sinceclocks.boxes import last_spot, limits_of, spot_of
from sinceclocks.checks import check_bound, check_letters
from sinceclocks.errors import NoLetters
from sinceclocks.rows import check_row, check_told


def alike(row, other, m):
    """Whether no machine whose numbers are at most m lets just one of the rows."""
    check_row(row)
    check_row(other)
    check_bound(m)
    return view(row, m) == view(other, m)


def view(row, m):
    """What machines see of the row: of each event the letter, and the spot of the time since each that has come."""
    grain, events = row
    seen, times = [], {"": 0}
    for letter, time in events:
        seen.append((letter, tuple([(x, spot_of(time - times[x], grain, m)) for x in sorted(times)])))
        times[letter] = time
    return seen


def picture(row, letters, m):
    """A single machine with these letters that lets just the rows alike to the row."""
    check_row(row)
    check_letters(letters)
    if not all([letter in letters for letter, _ in row[1]]):
        raise NoLetters("letters lacks a letter of the row")
    check_bound(m)
    return machine_of([view(row, m)], letters, m)


def machine_of(views, letters, m):
    """A single machine with these letters that lets just the rows with one of the views."""
    # a state for each beginning of a view; of one beginning no two steps by a letter hold at one reading
    known, ends, steps = {}, [], []
    for seen in views:
        state = 0
        for letter, spots in seen:
            key = (state, letter, spots)
            if key not in known:
                known[key] = len(known) + 1
                limits = limits_of([(x, (spot, spot)) for x, spot in spots], last_spot(m))
                steps.append((state, letter, limits, known[key]))
            state = known[key]
        ends.append(state)
    return (letters, len(known) + 1, (0,), tuple(sorted(set(ends))), tuple(steps))


def fitting(told, m):
    """("machine", machine) with a machine that does as is told, or ("rows", i, j) with two rows that forbid it."""
    check_told(told)
    check_bound(m)
    views = [view(row, m) for row, _ in told]
    for i, (_, truth) in enumerate(told):
        against = [j for j, (_, other) in enumerate(told) if truth and not other and views[j] == views[i]]
        if against:
            return ("rows", i, against[0])
    let = [k for k, (_, truth) in enumerate(told) if truth]
    letters = "".join(sorted({letter for k in let for letter, _ in told[k][0][1]}))
    # a machine has a letter even where no row needs one
    return ("machine", machine_of([views[k] for k in let], letters or "a", m))
