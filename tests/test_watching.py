"""Point 13: verdict and decided; and points 2 to 4 as far as they tell of these."""

import random
import unittest

from drawing import changed_machine, cycle, drawn_machine, drawn_row, finer, register, wide_machine
from samples import FINE, ROW, SOON, WIDE, anything, filled, spoiled
from words import Slow, lets_by_words, verdict_by_words

from sinceclocks.errors import NoMachine, NoRow
from sinceclocks.joining import both, either, turned
from sinceclocks.machines import is_machine, lets
from sinceclocks.rows import is_row
from sinceclocks.watching import decided, verdict

ALL = ("ab", 1, (0,), (0,), ((0, "a", (), 0), (0, "b", (), 0)))
NONE = ("ab", 1, (), (), ())
EARLY = ("a", 1, (0,), (0,), ((0, "a", (("", (0, False), (1, False)),), 0),))
ONE_B = ("ab", 2, (0,), (1,), ((0, "a", (), 0), (0, "b", (), 1), (1, "a", (), 1), (1, "b", (), 1)))


def opposite(word):
    return {"yes": "no", "no": "yes", "open": "open"}[word]


class VerdictTest(unittest.TestCase):
    def test_example(self):
        self.assertEqual([verdict(EARLY, (1, ())), verdict(EARLY, (2, (("a", 3),)))], ["open", "no"])
        self.assertEqual(decided(EARLY, (2, (("a", 1), ("a", 3)))), 2)

    def test_by_hand(self):
        self.assertEqual(verdict(ALL, (1, ())), "yes")
        self.assertEqual(verdict(NONE, (1, ())), "no")
        self.assertEqual(verdict(ONE_B, (1, ())), "open")
        self.assertEqual(verdict(ONE_B, (3, (("a", 1), ("b", 4)))), "yes")
        self.assertEqual(verdict(turned(ONE_B), (3, (("a", 1), ("b", 4)))), "no")
        self.assertEqual(verdict(SOON, (1, ())), "open")
        # the b has come, and no letter may come behind it, but the row itself is let
        self.assertEqual(verdict(SOON, ROW), "open")
        self.assertEqual(verdict(SOON, (1, (("a", 0), ("b", 0), ("a", 0)))), "no")

    def test_rows_that_end_here_count(self):
        # the row itself is let, or not, and nothing else
        self.assertEqual(verdict(("a", 1, (0,), (0,), ()), (1, ())), "open")
        self.assertEqual(verdict(("a", 2, (0,), (1,), ((0, "a", (), 1), (1, "a", (), 1))), (1, ())), "open")
        self.assertEqual(verdict(("a", 2, (0,), (1,), ((0, "a", (), 1), (1, "a", (), 1))), (1, (("a", 7),))), "yes")

    def test_other_letters(self):
        for machine in [ALL, EARLY, NONE, turned(ALL)]:
            for row in [(1, (("z", 0),)), (2, (("a", 1), ("z", 1), ("a", 2)))]:
                self.assertEqual(verdict(machine, row), "no")
        # only letters of the machine go on
        only = ("b", 1, (0,), (0,), ((0, "b", (), 0),))
        self.assertEqual(verdict(only, (1, ())), "yes")
        self.assertEqual(verdict(only, (1, (("a", 0),))), "no")
        self.assertEqual(verdict(("ab",) + only[1:], (1, ())), "open")

    def test_at_a_whole_number_and_just_behind(self):
        # until two units behind the begin an a leads to the end
        machine = ("a", 2, (0,), (1,), ((0, "a", (("", (0, False), (2, False)),), 1),
                                        (0, "a", (("", (0, False), None),), 0),
                                        (1, "a", (), 1)))
        self.assertEqual([verdict(machine, (1, (("a", time),))) for time in range(4)], ["yes", "yes", "yes", "no"])
        self.assertEqual(verdict(machine, (10, (("a", 20),))), "yes")
        self.assertEqual(verdict(machine, (10, (("a", 21),))), "no")
        self.assertEqual(verdict(machine, (10, ())), "open")
        # what comes behind an a at two units comes at two units or later: it may still come at once
        again = ("ab", 3, (0,), (2,), ((0, "a", (), 1), (1, "b", (("", (0, False), (2, False)),), 2)))
        self.assertEqual([verdict(again, (10, (("a", time),))) for time in [19, 20, 21]], ["open", "open", "no"])

    def test_between_two_ticks(self):
        # an a must come later than the first one, but within its unit
        machine = ("a", 3, (0,), (2,), (
            (0, "a", (), 1), (1, "a", (("a", (0, True), None), ("", (0, False), (1, True))), 2)))
        self.assertEqual(verdict(machine, (1, (("a", 0),))), "open")
        self.assertEqual(verdict(machine, (2, (("a", 1),))), "open")
        self.assertEqual(verdict(machine, (1, (("a", 1),))), "no")
        self.assertEqual(verdict(machine, (2, (("a", 1), ("a", 1)))), "no")
        # of the two letters that must come one behind the other, there is no tick of the row left for either
        two = ("ab", 4, (0,), (3,), (
            (0, "a", (), 1), (1, "b", (("a", (0, True), None), ("", (0, False), (1, True))), 2),
            (2, "a", (("b", (0, True), None), ("", (0, False), (1, True))), 3)))
        self.assertEqual(verdict(two, (3, (("a", 2),))), "open")
        self.assertEqual(verdict(two, (3, (("a", 3),))), "no")
        # all rows are let but those with a letter between two units
        free = ("a", 1, (0,), (0,), tuple((0, "a", (("", edge, edge),), 0) for edge in [(0, False), (1, False)])
                + ((0, "a", (("", (1, True), None),), 0),))
        self.assertEqual(verdict(free, (1, ())), "open")
        self.assertEqual(verdict(free, (1, (("a", 0),))), "open")
        self.assertEqual(verdict(free, (1, (("a", 1),))), "yes")
        self.assertEqual(verdict(free, (2, (("a", 1),))), "no")

    def test_order_of_fractions(self):
        # b must come just a unit behind the first a, but ahead of a unit behind the second one
        machine = ("ab", 4, (0,), (3,), ((0, "a", (), 1), (1, "b", (), 2),
                                         (2, "a", (("b", (1, False), (1, False)), ("a", (1, False), (1, True))), 3)))
        self.assertEqual(verdict(machine, (2, (("a", 0), ("b", 1)))), "no")
        machine = machine[:4] + (machine[4][:2] + (
            (2, "b", (("b", (1, False), (1, False)), ("a", (1, False), (2, True))), 3),),)
        self.assertEqual(verdict(machine, (2, (("a", 0), ("b", 1)))), "open")
        self.assertEqual(verdict(machine, (2, (("a", 0), ("b", 2)))), "no")
        self.assertEqual(verdict(machine, (9, (("a", 0), ("b", 8)))), "open")

    def test_states_together_let_all(self):
        # which of them lets a row hangs on the time of the next letter
        machine = ("a", 3, (0, 1), (0, 1, 2), ((0, "a", (("", (0, False), (1, False)),), 2),
                                               (1, "a", (("", (1, True), None),), 2),
                                            (2, "a", (), 2)))
        self.assertEqual(verdict(machine, (1, ())), "yes")
        self.assertEqual(verdict(machine[:2] + ((0,),) + machine[3:], (1, ())), "open")
        self.assertEqual(verdict(machine[:2] + ((1,),) + machine[3:], (1, ())), "open")

    def test_far_letters(self):
        # only behind seven letters does it show
        self.assertEqual(verdict(cycle(8, tuple(range(8))), (1, ())), "yes")
        self.assertEqual(verdict(cycle(8, tuple(range(7))), (1, ())), "open")
        self.assertEqual(verdict(cycle(8, (7,)), (1, ())), "open")
        self.assertEqual(verdict(cycle(8, ()), (1, ())), "no")

    def test_as_all_looks_tell(self):
        draw = random.Random(61)
        counts = {"yes": 0, "no": 0, "open": 0}
        for k in range(120):
            machine = wide_machine(draw, draw.choice(["a", "ab"]), 3, 8, 1 if k % 3 else 2)
            if k % 4 == 0:
                # what lets nearly all rows
                machine = changed_machine(draw, either(machine, turned(machine)))
            slow = Slow(machine)
            for _ in range(5):
                row = drawn_row(draw, machine[0], 4)
                word = verdict_by_words(slow, row)
                counts[word] += 1
                self.assertEqual(verdict(machine, row), word, (machine, row))
        self.assertGreater(min(counts.values()), 40, counts)

    def test_as_fine_rows_tell(self):
        draw = random.Random(62)
        met = []
        for k in range(60):
            machine, row = wide_machine(draw, "ab", 3, 6, 1), drawn_row(draw, "ab", 3, 2)
            if k % 6 == 0:
                machine = either(machine, turned(machine))
            grain, events = finer(row, 3)
            now = events[-1][1] if events else 0
            words = {lets(machine, row)}
            for first in range(2 * grain):
                words |= {lets(machine, (grain, events + ((a, now + first),))) for a in "ab"}
                for second in range(grain + 2):
                    words |= {lets(machine, (grain, events + ((a, now + first), (b, now + first + second))))
                              for a in "ab" for b in "ab"}
            word = verdict(machine, row)
            self.assertNotEqual((word, True in words), ("no", True), (machine, row))
            self.assertNotEqual((word, False in words), ("yes", True), (machine, row))
            met.append(word)
        self.assertEqual(sorted(set(met)), ["no", "open", "yes"])

    def test_over_the_whole(self):
        draw = random.Random(63)
        for k in range(60):
            machine = wide_machine(draw, "ab")
            row = drawn_row(draw, "ab", 5)
            word = verdict(machine, row)
            self.assertEqual(verdict(machine, finer(row, 7)), word)
            self.assertEqual(verdict(turned(machine), row), opposite(word))
            self.assertEqual(verdict(either(machine, machine), row), word)
            self.assertEqual(verdict(both(machine, turned(machine)), row), "no")
            self.assertEqual(verdict(either(machine, turned(machine)), row), "yes")
            if word != "open":
                self.assertIs(lets_by_words(machine, row), word == "yes")


class DecidedTest(unittest.TestCase):
    def test_by_hand(self):
        self.assertEqual(decided(ALL, ROW), 0)
        self.assertEqual(decided(NONE, ROW), 0)
        self.assertEqual(decided(ONE_B, (1, (("a", 0), ("a", 1), ("b", 1), ("a", 2)))), 3)
        self.assertIsNone(decided(ONE_B, (1, (("a", 0), ("a", 1)))))
        self.assertIsNone(decided(ONE_B, (1, ())))
        self.assertEqual(decided(ALL, (1, ())), 0)
        self.assertEqual(decided(EARLY, (2, (("a", 1), ("a", 2), ("a", 3)))), 3)
        self.assertIsNone(decided(EARLY, (2, (("a", 1), ("a", 2)))))

    def test_other_letters(self):
        self.assertEqual(decided(ONE_B, (1, (("a", 0), ("z", 1), ("b", 1)))), 2)
        self.assertEqual(decided(ONE_B, (1, (("b", 0), ("z", 1)))), 1)
        # a letter of no machine is not yet there behind no events
        self.assertEqual(decided(ALL, (1, (("z", 0),))), 0)
        self.assertEqual(decided(ONE_B, (1, (("z", 0),))), 1)

    def test_first_events_have_the_grain_of_the_row(self):
        self.assertEqual(decided(EARLY, (20, (("a", 19), ("a", 20), ("a", 20), ("a", 21), ("a", 40)))), 4)

    def test_as_verdict_tells(self):
        draw = random.Random(64)
        counts = []
        for k in range(150):
            machine = wide_machine(draw) if k % 3 else drawn_machine(draw)
            grain, events = drawn_row(draw, machine[0] * 5 + "abc", 7)
            words = [verdict(machine, (grain, events[:count])) for count in range(len(events) + 1)]
            told = decided(machine, (grain, events))
            self.assertEqual(told, next((k for k, word in enumerate(words) if word != "open"), None))
            counts.append(told)
            # once it is not open, it stays so, but that another letter makes it a "no"
            if told is not None and all(a in machine[0] for a, _ in events):
                self.assertEqual(set(words[told:]), {words[told]})
        self.assertTrue({None, 0, 1, 2, 3} <= set(counts), set(counts))

    def test_long_row(self):
        machine = register((("a", (1, False), (1, False)),))
        row = (100, tuple(("ab"[k % 2], k * 70) for k in range(20)))
        self.assertIsNone(decided(machine, row))
        # lets all rows in which some b comes more than a unit behind the last one
        late = ("ab", 2, (0,), (1,), (
            (0, "a", (), 0), (0, "b", (("b", None, None),), 0), (0, "b", (("b", (0, False), (1, False)),), 0),
            (0, "b", (("b", (1, True), None),), 1), (1, "a", (), 1), (1, "b", (), 1)))
        row = (10, tuple(("ab"[k > 0 and k % 5 == 0], k * 2) for k in range(16)) + (("a", 39), ("b", 41)))
        self.assertEqual(decided(late, row), 18)


class ErrorsTest(unittest.TestCase):
    def test_no_machine(self):
        for thing in anything() + spoiled(SOON):
            for call in [verdict, decided]:
                with self.assertRaises(NoMachine):
                    call(thing, ROW)
                with self.assertRaises(NoMachine):
                    call(thing, None)

    def test_no_row(self):
        for thing in anything() + spoiled(ROW):
            for call in [verdict, decided]:
                with self.assertRaises(NoRow):
                    call(SOON, thing)

    def test_anything_at_each_place(self):
        for thing in filled(SOON):
            if not is_machine(thing):
                with self.assertRaises(NoMachine):
                    verdict(thing, ROW)
        for thing in filled(ROW):
            if not is_row(thing):
                with self.assertRaises(NoRow):
                    decided(SOON, thing)

    def test_right_arguments_raise_nothing(self):
        for machine in [SOON, WIDE, ALL, NONE, ("c", 1, (), (), ())]:
            for row in [ROW, FINE, (1, ()), (1, (("z", 0),))]:
                self.assertIn(verdict(machine, row), ["yes", "no", "open"])
                decided(machine, row)


class OwnershipTest(unittest.TestCase):
    def test_arguments_are_as_before_and_results_equal(self):
        told = repr((WIDE, FINE))
        self.assertEqual([verdict(WIDE, FINE), decided(WIDE, FINE)], [verdict(WIDE, FINE), decided(WIDE, FINE)])
        self.assertEqual(repr((WIDE, FINE)), told)

    def test_by_names(self):
        self.assertEqual(verdict(row=(1, ()), machine=ALL), "yes")
        self.assertEqual(decided(row=(1, ()), machine=ALL), 0)


if __name__ == "__main__":
    unittest.main()
