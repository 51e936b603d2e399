"""Points 6 and 7, and points 2 to 4 as far as they tell of machines."""

import random
import unittest

from drawing import drawn_machine, drawn_row
from samples import FINE, ROW, SOON, WIDE, anything, filled, shortened, spoiled
from words import after_by_words

from sinceclocks.errors import NoMachine, NoRow
from sinceclocks.machines import after, is_machine, lets
from sinceclocks.rows import is_row


def limited(*limits):
    """A machine that goes from 0 to 1 by an a without limits, then to 2 by a b with these."""
    return ("abc", 3, (0,), (2,), ((0, "a", (), 1), (1, "b", limits, 2)))


def b_behind_a(ticks, grain=2, ahead=0):
    """A row with an a, and so many ticks behind it a b."""
    return (grain, (("a", ahead), ("b", ahead + ticks)))


class IsMachineTest(unittest.TestCase):
    def test_machines(self):
        for machine in [SOON, WIDE, ("a", 1, (), (), ()), ("abcdefghijklmnopqrstuvwxyz", 1, (0,), (), ()),
                        ("z", 10 ** 29, (0, 10 ** 29 - 1), (), ()), ("a", 2, (), (0, 1), ((1, "a", (), 0),) * 3),
                        limited(("a", (2, True), (1, False))), limited(("", (10 ** 29, False), (0, True)))]:
            with self.subTest(machine):
                self.assertIs(is_machine(machine), True)

    def test_letters(self):
        for letters in ["", "ba", "aa", "aab", "A", "a b", "abA", "a\n", None, 0, ["a"], ("a",), 1]:
            with self.subTest(letters):
                self.assertIs(is_machine((letters, 1, (0,), (0,), ())), False)

    def test_states(self):
        for many in [0, -1, True, False, None, "1", (1,)]:
            self.assertIs(is_machine(("a", many, (), (), ())), False)
        for states in [(2,), (3,), (10 ** 29,), (-1,), (1, 0), (0, 0), (0, 1, 1), (0, 2), [0], (False,), (0, True),
                       (None,), None, 0, "0"]:
            with self.subTest(states):
                self.assertIs(is_machine(("a", 2, states, (), ())), False)
                self.assertIs(is_machine(("a", 2, (), states, ())), False)

    def test_steps(self):
        for step in [(2, "a", (), 0), (0, "a", (), 2), (5, "a", (), 0), (0, "a", (), 7), (-1, "a", (), 0),
                     (0, "b", (), 0), (0, "", (), 0), (0, "aa", (), 0), (0, "a", [], 0),
                     (0, "a", None, 0), (0, "a", ()), (0, "a", (), 0, 0), (),
                     [0, "a", (), 0], (False, "a", (), 0), (0, "a", (), True), (0, "a", (None,), 0), None, "a", 0]:
            with self.subTest(step):
                self.assertIs(is_machine(("a", 2, (0,), (1,), (step,))), False)
                self.assertIs(is_machine(("a", 2, (0,), (1,), ((0, "a", (), 0), step))), False)

    def test_letter_of_a_step_is_one_letter(self):
        self.assertIs(is_machine(("ab", 1, (), (), ((0, "ab", (), 0),))), False)

    def test_limits(self):
        for limit in [("", None, None), ("d", (0, False), None), ("d", None, None), ("ab", (0, False), None),
                      ("A", (0, False), None), (None, (0, False), None), (0, (0, False), None), (["a"], None, None),
                      ("a", None, (0, False)), ("a", (-1, False), None), ("a", (0, False), (-1, True)),
                      ("a", (0,), None), ("a", (0, False, False), None), ("a", [0, False], None), ("a", 0, None),
                      ("a", (0, 0), None), ("a", (0, 1), None), ("a", (0, None), None), ("a", (True, False), None),
                      ("a", (False, True), None), ("a", (0, False), (1, 0)), ("a", (0, False), (True, True)),
                      ("a", (0, False), ()), ("a", (0, False), False), ("a", None), ("a", (0, False)), ("a",), (),
                      ("a", (0, False), None, None), ["a", None, None], ("a", None, False), ("a", False, None)]:
            with self.subTest(limit):
                self.assertIs(is_machine(limited(limit)), False)
                self.assertIs(is_machine(limited(("a", None, None), limit)), False)

    def test_kinds_at_each_place(self):
        fixed = [(), (4, 0), (4, 0, 2, 0), (4, 0, 2, 0, 1), (4, 0, 2, 1), (4, 0, 2, 1, 2), (4, 1), (4, 1, 2, 0)]
        for thing in spoiled(SOON) + spoiled(WIDE) + shortened(WIDE, fixed):
            with self.subTest(thing):
                self.assertIs(is_machine(thing), False)

    def test_anything(self):
        for thing in anything() + [0, 1, 10 ** 29, "a", "ab", ROW]:
            self.assertIs(is_machine(thing), False)
            self.assertIs(is_machine(("a", 1, (), (), thing)), thing == () and isinstance(thing, tuple))
            self.assertIs(is_machine(("a", 1, (), (), (thing,))), False)
            self.assertIs(is_machine(("a", 1, (), (), ((0, "a", (thing,), 0),))), False)

    def test_anything_at_each_place(self):
        for thing in filled(WIDE):
            if is_machine(thing) is True:
                self.assertIsInstance(after(thing, ROW), list)
            else:
                self.assertIs(is_machine(thing), False)
                with self.assertRaises(NoMachine):
                    after(thing, ROW)

    def test_by_name(self):
        self.assertIs(is_machine(thing=SOON), True)


class LimitsTest(unittest.TestCase):
    """Each list tells the waits, in halves of units from 0 to 5, that the limit on the a lets."""

    def waits(self, *limits):
        return [ticks for ticks in range(6) if lets(limited(*limits), b_behind_a(ticks))]

    def test_no_limits(self):
        self.assertEqual(self.waits(), [0, 1, 2, 3, 4, 5])

    def test_plain(self):
        self.assertEqual(self.waits(("a", (1, False), None)), [2, 3, 4, 5])
        self.assertEqual(self.waits(("a", (1, False), (2, False))), [2, 3, 4])
        self.assertEqual(self.waits(("a", (1, False), (1, False))), [2])
        self.assertEqual(self.waits(("a", (0, False), (0, False))), [0])

    def test_sharp(self):
        self.assertEqual(self.waits(("a", (1, True), None)), [3, 4, 5])
        self.assertEqual(self.waits(("a", (1, True), (2, True))), [3])
        self.assertEqual(self.waits(("a", (0, True), (2, False))), [1, 2, 3, 4])
        self.assertEqual(self.waits(("a", (0, False), (2, True))), [0, 1, 2, 3])
        self.assertEqual(self.waits(("a", (0, False), (0, True))), [])
        self.assertEqual(self.waits(("a", (1, True), (1, False))), [])
        self.assertEqual(self.waits(("a", (1, False), (1, True))), [])

    def test_least_above_most(self):
        self.assertEqual(self.waits(("a", (2, False), (1, False))), [])

    def test_all_must_hold(self):
        self.assertEqual(self.waits(("a", (1, False), None), ("a", (0, False), (2, True))), [2, 3])
        self.assertEqual(self.waits(("a", (1, False), None), ("a", None, None)), [])

    def test_not_come(self):
        self.assertEqual(self.waits(("a", None, None)), [])
        self.assertEqual(self.waits(("b", None, None)), [0, 1, 2, 3, 4, 5])
        self.assertEqual(self.waits(("b", (0, False), None)), [])
        self.assertEqual(self.waits(("c", None, None), ("a", (2, False), None)), [4, 5])

    def test_begin(self):
        machine = limited(("", (1, False), (2, True)))
        self.assertEqual([ticks for ticks in range(6) if lets(machine, b_behind_a(ticks))], [2, 3])
        self.assertEqual([ticks for ticks in range(6) if lets(machine, b_behind_a(ticks, 2, 1))], [1, 2])
        self.assertEqual([ticks for ticks in range(6) if lets(machine, (2, (("a", ticks), ("b", ticks))))], [2, 3])

    def test_grain(self):
        machine = limited(("a", (1, True), (2, True)))
        self.assertEqual([ticks for ticks in range(9) if lets(machine, b_behind_a(ticks, 3, 2))], [4, 5])
        self.assertEqual([ticks for ticks in range(9) if lets(machine, b_behind_a(ticks, 1, 2))], [])

    def test_since_the_last_one(self):
        again = ("a", 1, (0,), (0,), ((0, "a", (("a", None, None),), 0), (0, "a", (("a", (1, True), None),), 0)))
        self.assertIs(lets(again, (10, (("a", 0), ("a", 11), ("a", 22)))), True)
        self.assertIs(lets(again, (10, (("a", 0), ("a", 11), ("a", 21)))), False)

    def test_events_at_the_same_time(self):
        machine = limited(("a", (0, False), (0, False)))
        self.assertIs(lets(machine, (10, (("a", 7), ("b", 7)))), True)
        self.assertIs(lets(machine, (10, (("b", 7), ("a", 7)))), False)


class AfterTest(unittest.TestCase):
    def test_examples(self):
        self.assertIs(lets(SOON, ROW), True)
        self.assertEqual(after(SOON, (10, (("a", 0), ("b", 20)))), [])

    def test_by_hand(self):
        self.assertEqual(after(SOON, (10, (("a", 0), ("a", 15)))), [0])
        self.assertEqual(after(SOON, ROW), [1])
        # at 0 the begin is not more than 0 units ago, so WIDE goes nowhere; at 1 no b has come, so neither
        self.assertEqual(after(WIDE, (1, (("a", 0),))), [])
        self.assertEqual(after(WIDE, (1, (("a", 1),))), [])

    def test_row_without_events(self):
        self.assertEqual(after(WIDE, (5, ())), [0, 1])
        self.assertIs(lets(WIDE, (5, ())), True)
        self.assertIs(lets(SOON, (5, ())), False)

    def test_many_states_ascending_each_once(self):
        steps = tuple((0, "a", (), t) for t in [3, 1, 2, 1, 3, 0]) + ((2, "a", (), 1), (3, "a", (), 0))
        machine = ("a", 4, (0,), (2,), steps)
        self.assertEqual(after(machine, (1, (("a", 0),))), [0, 1, 2, 3])
        self.assertEqual(after(machine, (1, (("a", 0), ("a", 0)))), [0, 1, 2, 3])
        self.assertEqual(after(("a", 4, (1, 2, 3), (), steps), (1, (("a", 0),))), [0, 1])

    def test_without_starts_ends_or_steps(self):
        row = (1, (("a", 0),))
        self.assertEqual(after(("a", 1, (), (0,), ((0, "a", (), 0),)), row), [])
        self.assertIs(lets(("a", 1, (), (0,), ((0, "a", (), 0),)), (1, ())), False)
        self.assertEqual(after(("a", 1, (0,), (), ((0, "a", (), 0),)), row), [0])
        self.assertIs(lets(("a", 1, (0,), (), ((0, "a", (), 0),)), row), False)
        self.assertEqual(after(("a", 1, (0,), (0,), ()), row), [])
        self.assertIs(lets(("a", 1, (0,), (0,), ()), row), False)
        self.assertIs(lets(("a", 1, (0,), (0,), ()), (1, ())), True)

    def test_same_step_twice(self):
        machine = ("a", 2, (0,), (1,), ((0, "a", (), 1),) * 2)
        self.assertEqual(after(machine, (1, (("a", 3),))), [1])

    def test_letter_that_the_machine_does_not_have(self):
        machine = ("b", 1, (0,), (0,), ((0, "b", (), 0),))
        self.assertEqual(after(machine, (1, (("a", 0),))), [])
        self.assertEqual(after(machine, (1, (("b", 0), ("c", 0), ("b", 1)))), [])
        self.assertIs(lets(machine, (1, (("b", 0), ("z", 0)))), False)

    def test_nowhere_stays_nowhere(self):
        self.assertEqual(after(SOON, (1, (("b", 0), ("a", 0), ("b", 0)))), [])

    def test_one_end_of_many_is_enough(self):
        machine = ("a", 3, (0, 1), (1, 2), ())
        self.assertIs(lets(machine, (1, ())), True)
        self.assertIs(lets(("a", 3, (0,), (1, 2), ()), (1, ())), False)

    def test_far_states(self):
        far = 10 ** 29
        machine = ("a", far + 1, (far,), (0,), ((far, "a", (("", (far, True), None),), 0),))
        self.assertIs(lets(machine, (1, (("a", far),))), False)
        self.assertIs(lets(machine, (1, (("a", far + 1),))), True)

    def test_as_the_words_tell(self):
        draw = random.Random(7)
        let = 0
        for _ in range(3000):
            machine, row = drawn_machine(draw), drawn_row(draw)
            self.assertTrue(is_machine(machine) and is_row(row))
            states = after_by_words(machine, row)
            self.assertEqual(after(machine, row), states, (machine, row))
            self.assertIs(lets(machine, row), any(s in machine[3] for s in states), (machine, row))
            let += len(row[1]) > 1 and lets(machine, row)
        self.assertGreater(let, 100)

    def test_finer_grain_tells_the_same(self):
        draw = random.Random(8)
        for _ in range(500):
            machine, (grain, events) = drawn_machine(draw), drawn_row(draw)
            finer = (grain * 5, tuple((letter, time * 5) for letter, time in events))
            self.assertEqual(after(machine, (grain, events)), after(machine, finer))


class ErrorsTest(unittest.TestCase):
    def test_no_machine(self):
        for thing in anything() + spoiled(SOON):
            for call in [after, lets]:
                with self.assertRaises(NoMachine):
                    call(thing, ROW)

    def test_no_row(self):
        for thing in anything() + spoiled(ROW):
            for call in [after, lets]:
                with self.assertRaises(NoRow):
                    call(SOON, thing)

    def test_earliest_argument_tells_the_error(self):
        for call in [after, lets]:
            with self.assertRaises(NoMachine):
                call(None, None)
            with self.assertRaises(NoMachine):
                call(ROW, SOON)

    def test_right_arguments_raise_nothing(self):
        for machine in [SOON, WIDE, ("c", 1, (), (), ())]:
            for row in [ROW, FINE, (1, ())]:
                self.assertIsInstance(after(machine, row), list)
                self.assertIn(lets(machine, row), [True, False])


class OwnershipTest(unittest.TestCase):
    def test_returned_list_belongs_to_the_caller(self):
        for row in [(1, ()), (1, (("a", 0),))]:
            first = after(SOON, row)
            first.append(9)
            first[0] = 7
            self.assertEqual(after(SOON, row), [0])
            self.assertIsNot(after(SOON, row), after(SOON, row))

    def test_arguments_are_as_before(self):
        told = repr((WIDE, FINE))
        for _ in range(2):
            after(WIDE, FINE)
            lets(WIDE, FINE)
        self.assertEqual(repr((WIDE, FINE)), told)
        wrong = ["a", 1, [0], [0], []]
        with self.assertRaises(NoMachine):
            after(wrong, FINE)
        self.assertEqual(wrong, ["a", 1, [0], [0], []])

    def test_by_names(self):
        self.assertEqual(after(row=ROW, machine=SOON), [1])
        self.assertIs(lets(row=ROW, machine=SOON), True)


if __name__ == "__main__":
    unittest.main()
