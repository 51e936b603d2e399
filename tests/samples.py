"""Rows, machines and looks for the tests, and things that are none."""

ROW = (10, (("a", 0), ("a", 15), ("b", 34)))
FINE = (1, (("a", 0), ("b", 1), ("b", 1)))
SOON = ("ab", 2, (0,), (1,), ((0, "a", (), 0), (0, "b", (("a", (0, False), (2, True)),), 1)))
WIDE = ("ab", 3, (0, 1), (1, 2), (
    (0, "a", (("", (0, True), None), ("b", (1, False), (2, True)), ("a", None, None)), 1),
    (1, "b", (("a", (1, True), (0, False)),), 0)))
LOOK = ((1, 2), (0, 1), (1, 0), (0, 2), None)


def deep(levels, inside=()):
    """A thing that is nested so deep, tuples and lists in turn."""
    for level in range(levels):
        inside = (inside,) if level % 2 else [inside]
    return inside


def anything():
    """Things that are no row, machine, look, letter or number from 2 to 4."""
    return [
        None, True, False, -1, -(10 ** 29), "", "A", "-", "ab ", "ba", "aa", "\n", " ", "~" * 4000, "`", "{",
        [], (), [[]], ((),), [None], (None,), (True,), (0,), ("a",), [0, "a"], (1, []), (1, (), ()), (0, ()),
        deep(19), deep(20, "a"), tuple(range(1000)), list(range(999)), (0, 0, 0), ("", 0, (), (), ()),
    ]


def places(thing):
    """All places of a nested tuple, each as the way down to it."""
    found = [()]
    if isinstance(thing, tuple):
        for k, part in enumerate(thing):
            found += [(k,) + way for way in places(part)]
    return found


def part_at(thing, way):
    for k in way:
        thing = thing[k]
    return thing


def with_part(thing, way, part):
    """The thing with another part at this place."""
    if not way:
        return part
    k = way[0]
    return thing[:k] + (with_part(thing[k], way[1:], part),) + thing[k + 1:]


def of_other_kind(part):
    """Things that differ from the part in their kind alone, or by an item too many or too few."""
    if isinstance(part, bool):
        return [int(part), None, str(part)]
    if isinstance(part, int):
        return ([bool(part)] if part in (0, 1) else []) + [str(part), (part,), [part], -1 - part]
    if isinstance(part, str):
        return [part.upper() + "A", [part], (part,), part + "-", 0, False, list(part)]
    if isinstance(part, tuple):
        return [list(part), part + (part,), part + ("",), str(part), 0, True]
    return [True, False, 1, "", [], ()]


def spoiled(thing):
    """The thing with one place at a time changed, so that it is surely no longer what it was."""
    found = []
    for way in places(thing):
        found += [with_part(thing, way, part) for part in of_other_kind(part_at(thing, way))]
    return found


def shortened(thing, ways):
    """The thing with the last item gone at one of these places at a time."""
    return [with_part(thing, way, part_at(thing, way)[:-1]) for way in ways]


def filled(thing):
    """The thing with anything at one place at a time; now and then it is still what it was."""
    return [with_part(thing, way, part) for way in places(thing) for part in anything()]
