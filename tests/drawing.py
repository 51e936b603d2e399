"""Machines and rows drawn by lot, and machines of the largest sizes, for the tests."""


def drawn_limit(draw, letters, most_number=2):
    """A limit of any kind, now and then one that never holds."""
    x = draw.choice(["", *letters])
    if x != "" and draw.random() < 0.25:
        return (x, None, None)
    least = (draw.randrange(most_number + 1), draw.random() < 0.5)
    most = (draw.randrange(most_number + 1), draw.random() < 0.5)
    return (x, least, draw.choice([None, most]))


def wide_limit(draw, letters, most_number=2):
    """A limit that often holds."""
    x = draw.choice(["", *letters])
    if x != "" and draw.random() < 0.15:
        return (x, None, None)
    edge = (draw.randrange(most_number + 1), draw.random() < 0.5)
    return (x, edge, None) if draw.random() < 0.5 else (x, (0, False), (edge[0] + (edge[0] == 0), edge[1]))


def some_states(draw, many, chance=0.6):
    return tuple(state for state in range(many) if draw.random() < chance)


def drawn_machine(draw):
    letters = draw.choice(["a", "ab", "ab", "bc"])
    many = draw.randrange(1, 4)
    steps = tuple((draw.randrange(many), draw.choice(letters),
                   tuple(drawn_limit(draw, letters) for _ in range(draw.choice([0, 1, 1, 2, 3]))), draw.randrange(many))
                  for _ in range(draw.randrange(20)))
    return (letters, many, some_states(draw, many), some_states(draw, many), steps)


def wide_machine(draw, letters="ab", most_many=3, most_steps=8, most_number=2):
    """A machine that often lets rows, so that much hangs on each of its limits."""
    many = draw.randrange(1, most_many + 1)
    steps = tuple((draw.randrange(many), draw.choice(letters),
                   tuple(wide_limit(draw, letters, most_number) for _ in range(draw.choice([0, 1, 1, 2]))),
                   draw.randrange(many)) for _ in range(draw.randrange(2, most_steps + 1)))
    return (letters, many, draw.choice([(0,), (0,), some_states(draw, many)]), some_states(draw, many, 0.7), steps)


def gate(draw, letters="ab", most_number=2):
    """A machine that lets the rows whose third letter comes in one of a few short stretches, and maybe some more."""
    steps = [(s, a, (), s + 1) for s in (0, 1) for a in letters] + [(3, a, (), 3) for a in letters]
    for a in letters * draw.randrange(1, 4):
        least = draw.randrange(most_number + 1)
        most = draw.choice([None, (min(least + draw.randrange(2), most_number), draw.random() < 0.3)])
        limit = (draw.choice(["", *letters]), (least, draw.random() < 0.3), most)
        steps.append((2, a, draw.choice([(limit,), (limit,), (limit, wide_limit(draw, letters))]), 3))
    return (letters, 4, (0,), draw.choice([(3,), (2, 3), (1, 3)]), tuple(steps))


def changed_machine(draw, machine):
    """The machine with one of its steps changed, left out or put in, or with other ends: mostly much like it."""
    letters, many, starts, ends, steps = machine
    step = (draw.randrange(many), draw.choice(letters), (wide_limit(draw, letters),), draw.randrange(many))
    at = draw.randrange(len(steps) + 1)
    change = draw.randrange(4)
    if change == 0:
        return (letters, many, starts, ends, steps[:at] + (step,) + steps[at:])
    if change == 1:
        return (letters, many, starts, ends, steps[:at] + steps[at + 1:])
    if change == 2:
        return (letters, many, starts, ends, steps[:at] + (step,) + steps[at + 1:])
    return (letters, many, starts, some_states(draw, many), steps[::-1])


def drawn_row(draw, letters="aabbc", most_events=6, most_grain=3):
    grain, time, events = draw.randrange(1, most_grain + 1), 0, []
    for _ in range(draw.randrange(most_events + 1)):
        time += draw.randrange(grain * 2 + 2)
        events.append((draw.choice(letters), time))
    return (grain, tuple(events))


def finer(row, times):
    """The same row, written with so many times the grain."""
    return (row[0] * times, tuple((letter, time * times) for letter, time in row[1]))


def shifted(draw, row, times=4):
    """The row in a finer grain, with some of its events a little earlier or later: often alike to it."""
    grain, events = finer(row, times)
    moved = [max(0, time + draw.choice([0, 0, 1, -1, times // 2])) for _, time in events]
    moved = [max(moved[:k + 1]) for k in range(len(moved))]
    return (grain, tuple((letter, time) for (letter, _), time in zip(events, moved)))


def register(limits, letters="ab"):
    """A machine of the largest size that guesses an event at which the limits hold, and lets it be three from the end.

    Which guesses stand tells of each of the last three events whether the limits held.
    """
    steps = [(0, a, (), 0) for a in letters] + [(0, a, limits, 1) for a in letters]
    steps += [(s, a, (), s + 1) for s in (1, 2) for a in letters]
    return (letters, 4, (0,), (3,), tuple(steps))


def cycle(many, ends, limits=()):
    """A machine that goes round its states by each letter."""
    return ("ab", many, (0,), ends, tuple((s, a, limits, (s + 1) % many) for s in range(many) for a in "ab"))
