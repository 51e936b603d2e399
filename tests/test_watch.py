"""Point 15: the class Watch; and points 2 to 4 as far as they tell of it."""

import random
import unittest

from drawing import changed_machine, drawn_machine, gate, wide_machine
from samples import FINE, ROW, SOON, WIDE, anything, filled, spoiled
from words import Slow, after_by_words, verdict_by_words

from sinceclocks.errors import NoGrain, NoLetter, NoMachine, NoNumber, NoWait
from sinceclocks.joining import either, turned
from sinceclocks.machines import after, is_machine
from sinceclocks.watch import Watch
from sinceclocks.watching import verdict, windows

EARLY = ("a", 1, (0,), (0,), ((0, "a", (("", (0, False), (1, False)),), 0),))
SPACED = ("a", 1, (0,), (0,), ((0, "a", (("a", None, None),), 0), (0, "a", (("a", (2, False), None),), 0)))
ALL = ("ab", 1, (0,), (0,), ((0, "a", (), 0), (0, "b", (), 0)))
NONE = ("ab", 1, (), (), ())
# an a within a unit behind the last b, but not at once, and anything behind it
CALLED = ("ab", 2, (0,), (1,), ((0, "b", (), 0), (0, "a", (("b", (0, True), (1, False)),), 1), (1, "a", (), 1),
                               (1, "b", (), 1)))


class Always:
    """A thing that says of all things that they are equal to it."""

    def __eq__(self, other):
        return True


def watched(machine, grain, *events):
    """A watch behind these events, each a letter and a wait."""
    watch = Watch(machine, grain)
    for a, wait in events:
        watch.come(a, wait)
    return watch


def wait_is_in(wait, stretch):
    (low, sharp), most = stretch
    if wait < low or (sharp and wait == low):
        return False
    return most is None or wait < most[0] or (wait == most[0] and not most[1])


class ComeTest(unittest.TestCase):
    def test_example(self):
        watch = Watch(EARLY, 2)
        self.assertEqual([watch.come("a", 1), watch.hopes(1), watch.hopes(2), watch.come("a", 2), watch.back(),
                          watch.row()], ["open", ["a"], [], "no", True, (2, (("a", 1),))])

    def test_without_events(self):
        watch = Watch(EARLY, 3)
        self.assertEqual([watch.verdict(), watch.states(), watch.row(), len(watch), list(watch)],
                         ["open", [0], (3, ()), 0, []])
        self.assertEqual([Watch(ALL, 1).verdict(), Watch(NONE, 1).verdict(), Watch(NONE, 1).states()],
                         ["yes", "no", []])

    def test_events_come(self):
        watch = Watch(CALLED, 4)
        self.assertEqual(watch.come("b", 3), "open")
        self.assertEqual(watch.row(), (4, (("b", 3),)))
        self.assertEqual(watch.states(), [0])
        self.assertEqual(watch.come("b", 0), "open")
        self.assertEqual(watch.come("a", 4), "yes")
        self.assertEqual(watch.row(), (4, (("b", 3), ("b", 3), ("a", 7))))
        self.assertEqual(watch.states(), [1])
        self.assertEqual(watch.come("a", 200), "yes")
        self.assertEqual(watch.row()[1][-1], ("a", 207))
        # a letter that the machine does not have
        self.assertEqual(watch.come("z", 1), "no")
        self.assertEqual([watch.states(), watch.verdict(), watch.hopes(0)], [[], "no", []])
        self.assertEqual(watch.row()[1][-1], ("z", 208))
        self.assertIs(watch.back(), True)
        self.assertEqual([watch.verdict(), watch.states()], ["yes", [1]])

    def test_edges_of_a_limit(self):
        for wait, word in [(0, "no"), (1, "yes"), (3, "yes"), (4, "yes"), (5, "no")]:
            self.assertEqual(watched(CALLED, 4, ("b", 2)).come("a", wait), word)
        self.assertEqual(watched(SPACED, 1, ("a", 0)).come("a", 1), "no")
        self.assertEqual(watched(SPACED, 1, ("a", 0)).come("a", 2), "open")

    def test_hopes(self):
        watch = watched(CALLED, 4, ("b", 2))
        self.assertEqual([watch.hopes(wait) for wait in (0, 1, 4, 5, 200)],
                         [["b"], ["a", "b"], ["a", "b"], ["b"], ["b"]])
        # nothing is changed
        self.assertEqual([watch.row(), watch.verdict()], [(4, (("b", 2),)), "open"])
        self.assertEqual([Watch(ALL, 1).hopes(7), Watch(NONE, 1).hopes(0)], [["a", "b"], []])
        self.assertEqual(watched(EARLY, 2, ("a", 2)).hopes(0), ["a"])
        self.assertEqual(watched(EARLY, 2, ("a", 2)).hopes(1), [])

    def test_back(self):
        watch = Watch(EARLY, 2)
        self.assertIs(watch.back(), False)
        self.assertEqual(watch.row(), (2, ()))
        watch.come("a", 1)
        watch.come("a", 1)
        watch.come("a", 1)
        self.assertEqual(watch.verdict(), "no")
        self.assertIs(watch.back(), True)
        self.assertEqual([watch.verdict(), watch.row()], ["open", (2, (("a", 1), ("a", 2)))])
        # the next event comes behind the last one that is still there
        self.assertEqual(watch.come("b", 3), "no")
        self.assertEqual(watch.row(), (2, (("a", 1), ("a", 2), ("b", 5))))
        self.assertEqual([watch.back() for _ in range(5)], [True, True, True, False, False])
        self.assertEqual([watch.row(), watch.verdict()], [(2, ()), "open"])

    def test_grains(self):
        for grain in (1, 2, 20, 10 ** 30 - 1):
            watch = Watch(EARLY, grain)
            self.assertEqual(watch.row(), (grain, ()))
            self.assertEqual([watch.come("a", grain), watch.come("a", 0), watch.come("a", 1)], ["open", "open", "no"])

    def test_two_watches_apart(self):
        one, other = Watch(CALLED, 4), Watch(CALLED, 4)
        one.come("b", 1)
        self.assertEqual([len(one), len(other), other.row()], [1, 0, (4, ())])
        other.come("a", 1)
        self.assertEqual([one.verdict(), other.verdict()], ["open", "no"])
        one.back()
        self.assertEqual(other.row(), (4, (("a", 1),)))


class AsFunctionsTellTest(unittest.TestCase):
    def test_behind_each_event(self):
        draw = random.Random(111)
        words = {"yes": 0, "no": 0, "open": 0}
        for k in range(60):
            machine = [wide_machine(draw), drawn_machine(draw), gate(draw)][k % 3]
            if k % 4 == 0:
                machine = changed_machine(draw, either(machine, turned(machine)))
            grain = draw.choice([1, 2, 3, 20])
            watch, events, slow = Watch(machine, grain), (), Slow(machine)
            for _ in range(12):
                events = self.step(draw, watch, events)
                row = (grain, events)
                words[watch.verdict()] += 1
                self.check(watch, machine, row)
                if all(a in machine[0] for a, _ in events):
                    self.assertEqual(watch.verdict(), verdict_by_words(slow, row))
                    wait = draw.randrange(3 * grain + 2)
                    self.assertEqual(watch.hopes(wait), self.hopes_by_words(slow, row, wait))
                self.assertEqual(watch.row(), row)
        self.assertGreater(min(words.values()), 20, words)

    def step(self, draw, watch, events):
        """Has an event come, taken back, or refused; returns the events behind it."""
        grain = watch.row()[0]
        kind = draw.randrange(7)
        if kind == 0:
            self.assertIs(watch.back(), len(events) > 0)
            return events[:-1]
        if kind == 1:
            with self.assertRaises((NoLetter, NoWait)):
                watch.come(*draw.choice([("a", -1), ("A", 1), (None, 2), ("b", True), ("", None)]))
            return events
        a, wait = draw.choice("aaaabbbbc" if draw.random() < 0.2 else "ab"), draw.choice(
            [0, 1, grain - 1, grain, draw.randrange(2 * grain + 2)])
        events += ((a, (events[-1][1] if events else 0) + wait),)
        self.assertEqual(watch.come(a, wait), verdict(watch.machine, (grain, events)))
        return events

    def check(self, watch, machine, row):
        self.assertEqual(watch.row(), row)
        self.assertEqual(watch.verdict(), verdict(machine, row))
        self.assertEqual(watch.states(), after(machine, row))
        self.assertEqual(watch.states(), after_by_words(machine, row))
        self.assertEqual((len(watch), tuple(watch)), (len(row[1]), row[1]))
        self.assertEqual([watch[k] for k in range(len(watch))], list(row[1]))
        hopes = {a: windows(machine, row, a) for a in machine[0]}
        for wait in [0, 1, row[0] - 1, row[0], row[0] + 1, 2 * row[0], 2 * row[0] + 1, 200]:
            self.assertEqual(watch.hopes(wait), [a for a in machine[0]
                                                 if any(wait_is_in(wait, stretch) for stretch in hopes[a])])

    def hopes_by_words(self, slow, row, wait):
        now = row[1][-1][1] if row[1] else 0
        return [a for a in slow.letters if verdict_by_words(slow, (row[0], row[1] + ((a, now + wait),))) != "no"]

    def test_what_was_asked_before_changes_nothing(self):
        draw = random.Random(112)
        for _ in range(20):
            machine = wide_machine(draw)
            events = [(draw.choice("ab"), draw.randrange(5)) for _ in range(6)]
            asked, quiet = Watch(machine, 2), Watch(machine, 2)
            for a, wait in events:
                asked.hopes(wait)
                asked.states()
                asked.verdict()
                asked.come(a, wait + 1)
                asked.back()
                self.assertEqual(asked.come(a, wait), quiet.come(a, wait))
            self.assertTrue(asked == quiet)
            self.assertEqual([asked.verdict(), asked.hopes(1)], [quiet.verdict(), quiet.hopes(1)])


class SequenceTest(unittest.TestCase):
    def test_len_and_items(self):
        watch = watched(ALL, 3, ("a", 1), ("b", 0), ("a", 5))
        self.assertEqual(len(watch), 3)
        self.assertEqual([watch[0], watch[1], watch[2]], [("a", 1), ("b", 1), ("a", 6)])
        for at in anything() + [-1, 3, 4, -3, 10 ** 29, True, False, "0", (0,), [0], None, slice(0, 2), slice(None)]:
            with self.assertRaises(NoNumber):
                watch[at]
        watch.back()
        with self.assertRaises(NoNumber):
            watch[2]
        for at in (0, -1, None, True):
            with self.assertRaises(NoNumber):
                Watch(ALL, 1)[at]

    def test_in(self):
        watch = watched(ALL, 3, ("a", 1), ("b", 0), ("a", 5), ("b", 0))
        for event in [("a", 1), ("b", 1), ("a", 6), ("b", 6)]:
            self.assertIs(event in watch, True)
            self.assertIs(event not in watch, False)
        wrong = [("a", 0), ("a", 5), ("b", 0), ("c", 1), ["a", 1], ("a", True), ("a", 1, 1), ("a",), "a", 1, "a1",
                 (("a", 1),), ("A", 1), ("a", "1"), ("a", -1), (1, "a"), watch, watch.row(), Always(), ("a", None)]
        for thing in anything() + wrong:
            self.assertIs(thing in watch, False, thing)
        zero = watched(ALL, 1, ("a", 0), ("b", 1))
        self.assertEqual([("a", 0) in zero, ("a", False) in zero, ("b", True) in zero], [True, False, False])
        watch.back()
        self.assertIs(("b", 6) in watch, False)
        self.assertIs(("a", 0) in Watch(ALL, 1), False)

    def test_iteration(self):
        watch = watched(ALL, 3, ("a", 1), ("b", 0), ("a", 5))
        wanted = [("a", 1), ("b", 1), ("a", 6)]
        self.assertEqual([list(watch), tuple(watch), sorted(watch)], [wanted, tuple(wanted), sorted(wanted)])
        self.assertEqual([one for one in watch for _ in watch], [one for one in wanted for _ in range(3)])
        self.assertEqual(list(Watch(ALL, 1)), [])

    def test_events_that_come_during_an_iteration(self):
        watch = watched(ALL, 3, ("a", 1), ("b", 0), ("a", 5))
        wanted, met = list(watch), []
        for event in watch:
            met.append(event)
            watch.come("b", 1)
        self.assertEqual([met, len(watch)], [wanted, 6])
        wanted, met = list(watch), []
        for event in watch:
            met.append(event)
            watch.back()
        self.assertEqual([met, len(watch), watch.back()], [wanted, 0, False])
        # an iteration begins where it is asked for
        watch = watched(ALL, 3, ("a", 1))
        walk = iter(watch)
        watch.come("b", 0)
        later = iter(watch)
        watch.back()
        watch.come("a", 7)
        self.assertEqual([list(walk), list(later), list(watch)],
                         [[("a", 1)], [("a", 1), ("b", 1)], [("a", 1), ("a", 8)]])


class EqualTest(unittest.TestCase):
    def check(self, one, other, equal):
        self.assertEqual([one == other, one != other, other == one, other != one], [equal, not equal] * 2)
        for told in [one == other, one != other]:
            self.assertIsInstance(told, bool)

    def test_between_two_watches(self):
        one, other = Watch(EARLY, 2), Watch(tuple(list(EARLY)), 2)
        self.check(one, other, True)
        self.check(one, one, True)
        one.come("a", 1)
        self.check(one, other, False)
        other.come("a", 1)
        self.check(one, other, True)
        other.come("b", 1)
        other.verdict()
        self.check(one, other, False)
        other.back()
        self.check(one, other, True)
        self.check(one, watched(EARLY, 2, ("a", 2)), False)
        self.check(one, watched(EARLY, 2, ("b", 1)), False)

    def test_other_machines_and_grains(self):
        self.check(Watch(EARLY, 1), Watch(SPACED, 1), False)
        self.check(Watch(EARLY, 1), Watch(EARLY, 2), False)
        # the same times, but the rows are not equal as tuples
        self.check(watched(EARLY, 1, ("a", 1)), watched(EARLY, 2, ("a", 2)), False)
        self.check(watched(EARLY, 1, ("a", 1)), watched(EARLY, 2, ("a", 1)), False)
        # steps in another order let the same rows
        turned_steps = ALL[:4] + (ALL[4][::-1],)
        self.check(Watch(ALL, 1), Watch(turned_steps, 1), False)

    def test_with_something_else(self):
        watch = watched(ALL, 3, ("a", 1))
        things = anything() + [watch.row(), list(watch), tuple(watch), ALL, (ALL, watch.row()), object(), Watch]
        for thing in things:
            self.check(watch, thing, False)
            self.check(Watch(ALL, 3), thing, False)
        self.assertEqual([watch == Always(), watch != Always()], [False, True])


class ErrorsTest(unittest.TestCase):
    def test_no_machine(self):
        for thing in anything() + spoiled(SOON):
            for grain in (1, None):
                with self.assertRaises(NoMachine):
                    Watch(thing, grain)
        for thing in filled(SOON):
            if not is_machine(thing):
                with self.assertRaises(NoMachine):
                    Watch(thing, 3)

    def test_no_grain(self):
        for thing in anything() + [0, -1, True, False, "1", (1,), [2], ROW]:
            with self.assertRaises(NoGrain):
                Watch(SOON, thing)

    def refused(self, watch, error, a, wait):
        """The call is refused, and all is as before, with nothing more to be taken back."""
        before = [watch.row(), watch.verdict(), watch.states(), watch.hopes(1), len(watch), list(watch)]
        with self.assertRaises(error):
            watch.come(a, wait)
        self.assertEqual([watch.row(), watch.verdict(), watch.states(), watch.hopes(1), len(watch), list(watch)],
                         before)

    def test_no_letter_and_no_wait(self):
        watch = watched(CALLED, 4, ("b", 2))
        for thing in anything() + ["", "ab", 0, ("a",), ["a"], "A", "-"]:
            self.refused(watch, NoLetter, thing, 1)
            self.refused(watch, NoLetter, thing, None)
        for thing in anything() + [-1, True, False, "1", (1,), [0], None]:
            # some of the things are whole numbers that are no number from 0 on
            self.refused(watch, NoWait, "a", thing)
            self.refused(watch, NoWait, "z", thing)
            with self.assertRaises(NoWait):
                watch.hopes(thing)
        self.assertEqual([watch.row(), watch.back(), watch.back()], [(4, (("b", 2),)), True, False])
        empty = Watch(CALLED, 4)
        self.refused(empty, NoWait, "a", -1)
        self.assertIs(empty.back(), False)

    def test_right_arguments_raise_nothing(self):
        for machine in [SOON, WIDE, ALL, NONE]:
            for grain in (1, 20):
                watch = Watch(machine, grain)
                for a in "abz":
                    for wait in (0, 1, 200):
                        self.assertIn(watch.come(a, wait), ["yes", "no", "open"])
                        self.assertIsInstance(watch.hopes(wait), list)


class OwnershipTest(unittest.TestCase):
    def test_lists_belong_to_the_caller(self):
        watch = watched(ALL, 3, ("a", 1))
        for call in [watch.states, lambda: watch.hopes(2)]:
            first, wanted = call(), list(call())
            first.append(9)
            first[0] = None
            self.assertEqual(call(), wanted)
            self.assertIsNot(call(), call())
        listed = list(watch)
        listed.clear()
        self.assertEqual([watch.row(), watch.verdict()], [(3, (("a", 1),)), "yes"])

    def test_arguments_are_as_before(self):
        before = repr((WIDE, FINE))
        watch = Watch(WIDE, FINE[0])
        for a, time in FINE[1]:
            watch.come(a, 0)
            watch.hopes(time)
        self.assertEqual(repr((WIDE, FINE)), before)

    def test_by_names(self):
        watch = Watch(grain=2, machine=EARLY)
        self.assertEqual(watch.come(wait=1, a="a"), "open")
        self.assertEqual(watch.hopes(wait=1), ["a"])
        self.assertEqual(watch.row(), (2, (("a", 1),)))


if __name__ == "__main__":
    unittest.main()
