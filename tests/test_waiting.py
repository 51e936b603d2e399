"""Point 18: windows and silence; and points 2 to 4 as far as they tell of these."""

import random
import unittest

from drawing import changed_machine, drawn_machine, drawn_row, finer, gate, wide_machine
from samples import FINE, ROW, SOON, WIDE, anything, filled, spoiled
from words import Slow, greatest_by_words, lets_by_words, verdict_by_words

from sinceclocks.errors import NoLetter, NoMachine, NoRow
from sinceclocks.joining import either, single, turned
from sinceclocks.machines import is_machine
from sinceclocks.rows import is_row
from sinceclocks.watching import silence, verdict, windows

ALL = ("ab", 1, (0,), (0,), ((0, "a", (), 0), (0, "b", (), 0)))
NONE = ("ab", 1, (), (), ())
EARLY = ("a", 1, (0,), (0,), ((0, "a", (("", (0, False), (1, False)),), 0),))
APART = ("a", 1, (0,), (0,), ((0, "a", (("a", None, None),), 0), (0, "a", (("a", (0, False), (1, True)),), 0),
                             (0, "a", (("a", (1, True), None),), 0)))
ALWAYS = [((0, False), None)]


def waiting(*stretches, x=""):
    """A machine that lets the row without events, and the rows of one a that comes in a stretch since x."""
    return ("a", 1, (0,), (0,), tuple((0, "a", ((x, least, most),), 0) for least, most in stretches))


def is_in(halves, stretch):
    """Whether the wait of so many halves of a tick lies in the stretch."""
    (low, sharp), most = stretch
    if halves < 2 * low or (sharp and halves == 2 * low):
        return False
    return most is None or halves < 2 * most[0] or (halves == 2 * most[0] and not most[1])


def with_letter(row, a, halves):
    """The row with twice the grain, and a letter so many halves of a tick behind the last event."""
    grain, events = finer(row, 2)
    return (grain, events + ((a, (events[-1][1] if events else 0) + halves),))


def all_halves(row, machine):
    """Halves of ticks up to where nothing changes any more, and beyond."""
    return range(2 * row[0] * (greatest_by_words(machine) + 1) + 4)


class WindowsTest(unittest.TestCase):
    def test_example(self):
        self.assertEqual(windows(EARLY, (2, (("a", 1),)), "a"), [((0, False), (1, False))])
        self.assertEqual(windows(APART, (2, (("a", 1),)), "a"), [((0, False), (2, True)), ((2, True), None)])

    def test_always_and_never(self):
        for row in [(1, ()), (7, ()), ROW, FINE]:
            self.assertEqual(windows(ALL, row, "a"), ALWAYS)
            self.assertEqual(windows(ALL, row, "b"), ALWAYS)
            self.assertEqual(windows(NONE, row, "a"), [])
            self.assertEqual(windows(ALL, row, "c"), [])
        self.assertEqual(windows(("ab", 1, (0,), (0,), ((0, "a", (), 0),)), (1, ()), "b"), [])
        self.assertEqual(windows(ALL, (1, (("a", 0), ("z", 1))), "a"), [])

    def test_edges(self):
        for stretch in [((0, False), (1, False)), ((0, True), (1, False)), ((1, False), (2, True)),
                        ((1, True), (2, False)), ((0, False), (0, False)), ((1, False), (1, False)),
                        ((2, False), (2, False)), ((0, True), (1, True)),
                        ((1, True), (2, True)), ((2, True), None), ((1, False), None), ((0, True), None)]:
            (low, sharp), most = stretch
            for grain in [1, 3]:
                wanted = ((low * grain, sharp), most if most is None else (most[0] * grain, most[1]))
                self.assertEqual(windows(waiting(stretch), (grain, ()), "a"), [wanted])
                again = ("a", 2, (0,), (1,), ((0, "a", (), 1), (1, "a", (("a",) + stretch,), 1)))
                self.assertEqual(windows(again, (grain, (("a", 5),)), "a"), [wanted])
                self.assertEqual(windows(again, (grain, ()), "a"), ALWAYS)

    def test_stretches_that_touch_are_joined(self):
        joined = [[((0, False), (1, False)), ((1, True), None)], [((0, False), (1, True)), ((1, False), None)],
                  [((0, False), (1, True)), ((1, False), (1, False)), ((1, True), None)],
                  [((1, False), None), ((0, False), (2, True))]]
        for stretches in joined:
            self.assertEqual(windows(waiting(*stretches), (5, ()), "a"), ALWAYS)
        parted = waiting(((0, False), (1, True)), ((1, True), (2, True)), ((2, True), None))
        self.assertEqual(windows(parted, (5, ()), "a"),
                         [((0, False), (5, True)), ((5, True), (10, True)), ((10, True), None)])
        self.assertEqual(windows(waiting(((1, False), (1, False)), ((2, False), (2, False))), (5, ()), "a"),
                         [((5, False), (5, False)), ((10, False), (10, False))])

    def test_behind_events(self):
        # seven ticks behind the begin
        row = (4, (("a", 1), ("b", 3), ("a", 7)))
        machine = ("ab", 1, (0,), (0,), ((0, "a", (("b", (1, False), (2, True)),), 0),
                                         (0, "b", (("", (2, True), None),), 0)))
        self.assertEqual(windows(machine, (4, ()), "b"), [((8, True), None)])
        self.assertEqual(windows(machine, row, "a"), [])
        free = ("ab", 2, (1,), (0, 1), machine[4] + ((1, "a", (), 1), (1, "b", (), 1),
                                                     (1, "a", (("b", (1, False), None),), 0)))
        self.assertEqual(windows(free, row, "b"), ALWAYS)
        last = ("ab", 2, (0,), (1,), ((0, "a", (), 0), (0, "b", (), 0), (0, "a", (("b", (1, False), (2, True)),), 1)))
        # the end is one a more; the a may come whenever, but then only another one behind a b
        self.assertEqual(windows(last, row, "a"), ALWAYS)
        only = ("ab", 3, (0,), (2,), (
            (0, "a", (), 0), (0, "b", (), 1), (1, "a", (("b", (1, False), (2, True)),), 2),
            (1, "a", (("b", (1, False), None), ("a", (2, False), None)), 2)))
        self.assertEqual(windows(only, (4, (("a", 1), ("b", 3))), "a"), [((4, False), None)])
        self.assertEqual(windows(only, (4, (("a", 1), ("b", 9))), "a"), [((4, False), None)])
        self.assertEqual(windows(only, (4, (("a", 9), ("b", 10))), "a"), [((4, False), None)])
        only = only[:4] + (only[4][:3],)
        self.assertEqual(windows(only, (4, (("a", 1), ("b", 3))), "a"), [((4, False), (8, True))])

    def test_what_comes_behind_the_letter_counts(self):
        # behind the a a b must come within the first unit, and later than the a
        machine = ("ab", 3, (0,), (2,), (
            (0, "a", (), 1), (1, "b", (("a", (0, True), None), ("", (0, False), (1, True))), 2)))
        self.assertEqual(windows(machine, (3, ()), "a"), [((0, False), (3, True))])
        self.assertEqual(windows(machine, (3, ()), "b"), [])
        self.assertEqual(windows(machine, (3, (("a", 1),)), "b"), [((0, True), (2, True))])

    def test_as_verdicts_tell(self):
        draw = random.Random(71)
        counts = {}
        for k in range(250):
            letters = draw.choice(["a", "ab", "ab"])
            machine = [wide_machine(draw, letters, 3, 7, 2), gate(draw, letters), drawn_machine(draw)][k % 3]
            row = drawn_row(draw, machine[0] * 6 + "abc", 3)
            if k % 3 == 1:
                first = draw.randrange(3)
                row = (draw.choice([2, 3]), ((draw.choice(letters), first),
                                             (draw.choice(letters), first + draw.randrange(2))))
            if verdict(machine, row) != "open" and k % 10:
                continue
            slow = Slow(machine)
            for a in machine[0] + "z":
                told = windows(machine, row, a)
                self.check_form(told)
                counts[len(told)] = counts.get(len(told), 0) + 1
                for halves in all_halves(row, machine):
                    hopeful = verdict_by_words(slow, with_letter(row, a, halves)) != "no"
                    self.assertIs(any(is_in(halves, stretch) for stretch in told), hopeful,
                                  (machine, row, a, halves, told))
        self.assertTrue({0, 1, 2, 3} <= set(counts), counts)

    def check_form(self, told):
        """Stretches that ascend, each with some wait, and some wait between each two."""
        self.assertIsInstance(told, list)
        for (low, sharp), most in told:
            self.assertTrue(most is None or low < most[0] or (low == most[0] and not sharp and not most[1]), told)
        for (_, most), (least, _) in zip(told, told[1:]):
            self.assertIsNotNone(most)
            self.assertTrue(most[0] < least[0] or (most[0] == least[0] and most[1] and least[1]), told)

    def test_finer_grain(self):
        draw = random.Random(72)
        for _ in range(60):
            machine, row = wide_machine(draw, "ab"), drawn_row(draw, "ab", 5)
            for a in "ab":
                told = [((low * 7, sharp), most if most is None else (most[0] * 7, most[1]))
                        for (low, sharp), most in windows(machine, row, a)]
                self.assertEqual(windows(machine, finer(row, 7), a), told)
                self.assertEqual(windows(either(machine, machine), row, a), windows(single(machine), row, a))


class SilenceTest(unittest.TestCase):
    def test_example(self):
        self.assertIsNone(silence(EARLY, (2, (("a", 1),))))

    def test_sure_at_once(self):
        self.assertEqual(silence(ALL, ROW), ((0, False), "yes"))
        self.assertEqual(silence(NONE, ROW), ((0, False), "no"))
        self.assertEqual(silence(turned(NONE), (3, ())), ((0, False), "yes"))
        self.assertEqual(silence(EARLY, (2, (("a", 3),))), ((0, False), "no"))

    def test_never_sure(self):
        self.assertIsNone(silence(("a", 1, (0,), (0,), ()), (1, ())))
        self.assertIsNone(silence(SOON, ROW))
        self.assertIsNone(silence(SOON, (1, (("a", 0),))))
        self.assertIsNone(silence(APART, (1, ())))

    def test_from_a_wait_on(self):
        # an a is let from one unit behind the begin on, or only behind it; or none any more
        for least, wanted in [((1, False), (3, False)), ((1, True), (3, True)), ((0, True), (0, True)),
                              ((2, False), (6, False)), ((2, True), (6, True)), ((0, False), (0, False))]:
            machine = ("a", 2, (0,), (0, 1), ((0, "a", (("", least, None),), 1), (1, "a", (), 1)))
            self.assertEqual(silence(machine, (3, ())), (wanted, "yes"))
            self.assertEqual(silence(turned(machine), (3, ())), (wanted, "no"))
            gone = ("a", 2, (0,), (1,), ((0, "a", (("", (0, False), (least[0], not least[1])),), 1), (1, "a", (), 1)))
            self.assertEqual(silence(gone, (3, ())), (wanted, "no"))
            self.assertEqual(silence(turned(gone), (3, ())), (wanted, "yes"))

    def test_behind_events(self):
        # an a soon behind the last one, or none any more
        machine = ("ab", 2, (0,), (0, 1), (
            (0, "b", (), 0), (0, "a", (("a", None, None),), 0), (0, "a", (("a", (1, False), None),), 0)))
        self.assertIsNone(silence(machine, (5, (("a", 2), ("b", 4)))))
        late = ("ab", 2, (0,), (1,), ((0, "a", (("b", (0, False), (1, True)),), 1), (0, "b", (("b", None, None),), 0),
                                      (1, "a", (), 1), (1, "b", (), 1)))
        self.assertEqual(silence(late, (5, (("b", 3),))), ((5, False), "no"))
        self.assertEqual(silence(late, (5, (("b", 3), ("b", 4)))), ((0, False), "no"))
        self.assertIsNone(silence(late, (5, ())))
        self.assertEqual(silence(turned(late), (5, (("b", 3),))), ((5, False), "yes"))
        # what is sure between two letters' whole units
        limits = (("", (1, False), None), ("a", (0, False), (1, False)))
        two = ("ab", 2, (0,), (1,), ((0, "a", (), 0), (0, "b", limits, 1)))
        self.assertEqual(silence(two, (5, (("a", 2),))), None)
        once = ("ab", 3, (0,), (2,), ((0, "a", (), 1), (1, "b", limits, 2)))
        self.assertEqual(silence(once, (5, (("a", 2),))), ((5, True), "no"))
        self.assertEqual(windows(once, (5, (("a", 2),)), "b"), [((3, False), (5, False))])

    def test_row_counts_itself(self):
        # letters lead to ends alone, but the row is not let
        machine = ("a", 2, (0,), (1,), ((0, "a", (), 1), (1, "a", (), 1)))
        self.assertIsNone(silence(machine, (1, ())))
        self.assertEqual(silence(machine, (1, (("a", 0),))), ((0, False), "yes"))
        # it is let, but nothing else
        self.assertIsNone(silence(("a", 1, (0,), (0,), ()), (1, ())))
        self.assertEqual(silence(("a", 1, (0,), (), ()), (1, ())), ((0, False), "no"))

    def test_other_letters(self):
        self.assertEqual(silence(ALL, (1, (("a", 0), ("z", 1)))), ((0, False), "no"))
        self.assertEqual(silence(ALL, (1, (("z", 0), ("a", 1)))), ((0, False), "no"))

    def test_as_rows_that_go_on_tell(self):
        draw = random.Random(73)
        counts = {}
        for k in range(500):
            letters = draw.choice(["a", "a", "ab"])
            machine = wide_machine(draw, letters, 3, 7, 1 if k % 3 else 2) if k % 4 else gate(draw, letters)
            if k % 3 == 0:
                machine = changed_machine(draw, single(machine))
            if k % 5 == 0:
                machine = turned(machine)
            row = drawn_row(draw, machine[0], 3)
            if verdict(machine, row) != "open" and k % 10:
                continue
            told = silence(machine, row)
            self.check_silence(machine, row, told)
            kind = None if told is None else (told[0] == (0, False), told[1])
            counts[kind] = counts.get(kind, 0) + 1
        self.assertTrue({None, (True, "yes"), (True, "no"), (False, "yes"), (False, "no")} <= set(counts), counts)

    def check_silence(self, machine, row, told):
        """The row is sure just from those waits on that the stretch has."""
        slow, let = Slow(machine), lets_by_words(machine, row)
        sure = True
        for halves in list(all_halves(row, machine))[::-1]:
            for a in machine[0]:
                behind = slow.behind(with_letter(row, a, halves))
                sure = sure and slow.all_truths(behind) == [(let,)]
            wanted = told is not None and is_in(halves, (told[0], None))
            self.assertIs(sure, wanted, (machine, row, told, halves))
        if told is not None:
            self.assertEqual(told[1], "yes" if let else "no")

    def test_as_verdict_tells(self):
        draw = random.Random(74)
        for _ in range(120):
            machine, row = wide_machine(draw), drawn_row(draw, "ab", 5)
            told = silence(machine, row)
            self.assertIs(told is not None and told[0] == (0, False), verdict(machine, row) != "open")
            if verdict(machine, row) != "open":
                self.assertEqual(told[1], verdict(machine, row))

    def test_finer_grain(self):
        draw = random.Random(75)
        for _ in range(120):
            machine, row = wide_machine(draw), drawn_row(draw, "ab", 5)
            told = silence(machine, row)
            if told is not None:
                told = ((told[0][0] * 6, told[0][1]), told[1])
            self.assertEqual(silence(machine, finer(row, 6)), told)
            swapped = None if told is None else (told[0], {"yes": "no", "no": "yes"}[told[1]])
            self.assertEqual(silence(turned(machine), finer(row, 6)), swapped)


class ErrorsTest(unittest.TestCase):
    def test_no_machine(self):
        for thing in anything() + spoiled(SOON):
            with self.assertRaises(NoMachine):
                windows(thing, ROW, "a")
            with self.assertRaises(NoMachine):
                windows(thing, None, None)
            with self.assertRaises(NoMachine):
                silence(thing, None)

    def test_no_row(self):
        for thing in anything() + spoiled(ROW):
            with self.assertRaises(NoRow):
                windows(SOON, thing, "a")
            with self.assertRaises(NoRow):
                windows(SOON, thing, None)
            with self.assertRaises(NoRow):
                silence(SOON, thing)

    def test_no_letter(self):
        for thing in anything() + ["", "ab", "A", "1", 0, 1, ["a"], ("a",), "a ", "\n"]:
            for machine, row in [(SOON, ROW), (NONE, (1, ())), (ALL, (1, (("z", 0),)))]:
                with self.assertRaises(NoLetter):
                    windows(machine, row, thing)

    def test_anything_at_each_place(self):
        for thing in filled(SOON):
            if not is_machine(thing):
                with self.assertRaises(NoMachine):
                    silence(thing, ROW)
        for thing in filled(ROW):
            if not is_row(thing):
                with self.assertRaises(NoRow):
                    windows(SOON, thing, "a")

    def test_right_arguments_raise_nothing(self):
        for machine in [SOON, WIDE, ALL, NONE, ("c", 1, (), (), ())]:
            for row in [ROW, FINE, (1, ()), (1, (("z", 0),))]:
                silence(machine, row)
                for a in "acz":
                    self.assertIsInstance(windows(machine, row, a), list)


class OwnershipTest(unittest.TestCase):
    def test_stretches_belong_to_the_caller(self):
        row = (2, (("a", 1),))
        first = windows(APART, row, "a")
        first[0] = None
        first.append(1)
        self.assertEqual(windows(APART, row, "a"), [((0, False), (2, True)), ((2, True), None)])
        self.assertIsNot(windows(APART, row, "a"), windows(APART, row, "a"))
        empty = windows(NONE, row, "a")
        empty.append(1)
        self.assertEqual(windows(NONE, row, "a"), [])

    def test_arguments_are_as_before_and_results_equal(self):
        told = repr((WIDE, FINE))
        self.assertEqual(repr([windows(WIDE, FINE, "a"), silence(WIDE, FINE)]),
                         repr([windows(WIDE, FINE, "a"), silence(WIDE, FINE)]))
        self.assertEqual(repr((WIDE, FINE)), told)

    def test_by_names(self):
        self.assertEqual(windows(a="a", row=(1, ()), machine=ALL), ALWAYS)
        self.assertEqual(silence(row=(1, ()), machine=ALL), ((0, False), "yes"))


if __name__ == "__main__":
    unittest.main()
