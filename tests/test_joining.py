"""Point 11, and points 2 to 4 as far as they tell of single machines, turned ones, and of both and either."""

import random
import unittest

from drawing import cycle, drawn_machine, drawn_row, register, wide_machine
from samples import SOON, WIDE, anything, filled, spoiled
from words import Slow, after_by_words, fine_rows, greatest_by_words, is_single_by_words, lets_by_words

from sinceclocks.comparing import compared, parted, within
from sinceclocks.errors import NoMachine
from sinceclocks.joining import both, either, is_single, single, turned
from sinceclocks.machines import is_machine, lets

ALL = ("ab", 1, (0,), (0,), ((0, "a", (), 0), (0, "b", (), 0)))
NONE = ("ab", 1, (), (), ())
TWO = ("a", 1, (0,), (0,), ((0, "a", (("", (0, False), (1, False)),), 0), (0, "a", (("", (1, False), None),), 0)))
ONCE = ("a", 1, (0,), (0,), ((0, "a", (("a", None, None),), 0),))


def two_steps(*limits, letters="ab"):
    """A machine with a step by an a for each of these limits, from 0 to 0."""
    return (letters, 1, (0,), (0,), tuple((0, "a", (limit,), 0) for limit in limits))


def rows_of(*machines, most_events=3):
    """Fine rows, with all letters of the machines, and one with another letter."""
    letters = "".join(sorted(set("".join(machine[0] for machine in machines))))
    m = greatest_by_words(*machines)
    if m > 1 or len(letters) > 2:
        most_events = min(most_events, 2)
    rows = list(fine_rows(letters, most_events, m))
    return rows + [(1, (("z", 0),)), (1, ((letters[0], 0), ("z", 0)))]


def drawn_machines(seed, count, letters=("a", "ab", "ab")):
    draw = random.Random(seed)
    for k in range(count):
        machine = wide_machine(draw, draw.choice(letters), 3, 8, 1 if k % 3 else 2) if k % 4 else drawn_machine(draw)
        yield machine


class IsSingleTest(unittest.TestCase):
    def test_starts(self):
        self.assertIs(is_single(("a", 3, (), (1,), ())), True)
        self.assertIs(is_single(("a", 3, (2,), (1, 2), ())), True)
        self.assertIs(is_single(("a", 3, (0, 2), (1,), ())), False)
        self.assertIs(is_single(("a", 3, (0, 1, 2), (), ())), False)

    def test_stretches_that_touch(self):
        for text, other, wanted in [
                (((0, False), (1, False)), ((1, False), None), False),
                (((0, False), (1, True)), ((1, False), None), True),
                (((0, False), (1, False)), ((1, True), None), True), (((0, False), (1, True)), ((1, True), None), True),
                (((1, False), (1, False)), ((1, True), (2, False)), True),
                (((1, False), (1, False)), ((0, True), (2, True)), False),
                (((0, True), (1, True)), ((0, True), (1, True)), False),
                (((0, True), (1, True)), ((0, False), (0, False)), True),
                (((2, True), None), ((0, False), (2, False)), True),
                (((2, False), None), ((0, False), (2, False)), False),
                (((0, False), None), ((0, False), None), False)]:
            for x in ["", "a", "b"]:
                with self.subTest((x, text, other)):
                    self.assertIs(is_single(two_steps((x,) + text, (x,) + other)), wanted)
                    self.assertIs(is_single(two_steps((x,) + other, (x,) + text)), wanted)

    def test_not_come(self):
        never, come = ("a", None, None), ("a", (0, False), None)
        self.assertIs(is_single(two_steps(never, come)), True)
        self.assertIs(is_single(two_steps(never, ("a", (0, False), (1, True)), ("a", (1, False), None))), True)
        self.assertIs(is_single(two_steps(never, never)), False)
        self.assertIs(is_single(two_steps(never, ("b", None, None))), False)
        self.assertIs(is_single(two_steps(come, ("b", None, None))), False)

    def test_limits_that_never_hold(self):
        for limit in [("a", (2, False), (1, False)), ("a", (1, True), (1, False)), ("a", (1, False), (1, True)),
                      ("a", (0, False), (0, True)), ("", (0, False), (0, True)), ("", (2, False), (1, False))]:
            self.assertIs(is_single(two_steps(limit, limit)), True, limit)
            self.assertIs(is_single(two_steps(limit, ("a", (0, False), None))), True, limit)
        never = (0, "a", (("a", None, None), ("a", (0, False), None)), 0)
        self.assertIs(is_single(("a", 1, (0,), (), ((0, "a", (), 0), never))), True)
        open_one = (0, "a", (("a", (0, True), (1, True)),), 0)
        self.assertIs(is_single(("a", 1, (0,), (), (open_one, open_one))), False)

    def test_times_alone_count(self):
        # the begin never comes behind the a, but a reading may tell so
        machine = ("a", 1, (0,), (0,), ((0, "a", (("", (0, False), (1, True)),), 0),
                                        (0, "a", (("a", (1, False), None),), 0)))
        self.assertIs(is_single(machine), False)
        # nor was the begin ever 0 units ago and a yet longer
        self.assertIs(is_single(two_steps(("", (0, False), (0, False)), ("a", (2, True), None))), False)

    def test_limits_on_several_letters(self):
        soon, late = ("a", (0, False), (1, True)), ("a", (1, False), None)
        step = (0, "a", (soon, ("b", (1, False), None)), 0)
        for limits, wanted in [((late,), True), ((late, ("b", (0, False), None)), True), ((soon,), False), ((), False),
                               ((soon, ("b", (0, False), (1, True))), True), ((("b", None, None),), True),
                               ((("b", (0, False), (1, False)),), False), ((("", (1, False), None),), False)]:
            self.assertIs(is_single(("ab", 1, (0,), (), (step, (0, "a", limits, 0)))), wanted, limits)

    def test_other_states_and_letters_do_not_meet(self):
        self.assertIs(is_single(ALL), True)
        self.assertIs(is_single(("ab", 2, (0,), (), ((0, "a", (), 1), (1, "a", (), 1), (0, "b", (), 1)))), True)
        self.assertIs(is_single(("ab", 2, (0,), (), ((0, "a", (), 1), (1, "a", (), 1), (0, "a", (), 0)))), False)
        # states that cannot be reached count, too
        self.assertIs(is_single(("ab", 2, (0,), (), ((1, "a", (), 1), (1, "a", (), 0)))), False)

    def test_same_step_twice(self):
        self.assertIs(is_single(("a", 1, (0,), (0,), ((0, "a", (), 0),) * 2)), False)

    def test_the_least_alike_steps_of_many(self):
        steps = tuple((0, "a", (("a", (k, False), (k + 1, True)),), 0) for k in range(20))
        self.assertIs(is_single(("a", 1, (0,), (), steps)), True)
        for k in range(20):
            for more in [(k, False), (k, True)]:
                self.assertIs(is_single(("a", 1, (0,), (), steps + ((0, "a", (("a", more, (k + 1, True)),), 0),))),
                              False)

    def test_as_readings_tell(self):
        draw = random.Random(31)
        counts = [0, 0]
        for k in range(400):
            machine = drawn_machine(draw)
            if k % 2:
                machine = machine[:2] + (machine[2][:1], machine[3], machine[4][:4])
            wanted = is_single_by_words(machine)
            counts[wanted] += 1
            self.assertIs(is_single(machine), wanted, machine)
        self.assertGreater(min(counts), 50)


class SingleTest(unittest.TestCase):
    def check_single(self, machine, told, letters):
        self.assertIs(is_machine(told), True, machine)
        self.assertEqual(told[0], letters)
        self.assertIs(is_single(told), True, machine)
        self.assertTrue(is_single_by_words(told), machine)

    def test_by_hand(self):
        told = single(TWO)
        self.check_single(TWO, told, "a")
        for row in rows_of(TWO):
            self.assertEqual(lets(told, row), all(a == "a" for a, _ in row[1]))
            self.assertEqual(lets(turned(TWO), row), False)
            self.assertEqual(lets(turned(ONCE), row), len(row[1]) > 1 and all(a == "a" for a, _ in row[1]))

    def test_empty_machines(self):
        for machine in [NONE, ("ab", 3, (), (0, 1), ALL[4]), ("ab", 2, (0, 1), (), ALL[4]), ("ab", 2, (0, 1), (), ())]:
            self.check_single(machine, single(machine), "ab")
            self.check_single(machine, turned(machine), "ab")
            for row in rows_of(machine):
                self.assertIs(lets(single(machine), row), False)
                self.assertIs(lets(turned(machine), row), ("z", 0) not in row[1])
        for machine in [ALL, ("ab", 2, (0, 1), (0, 1), ALL[4] + ((1, "a", (), 0), (1, "b", (), 1)))]:
            for row in rows_of(machine):
                self.assertIs(lets(single(machine), row), ("z", 0) not in row[1])
                self.assertIs(lets(turned(machine), row), False)

    def test_rows(self):
        for machine in drawn_machines(32, 45):
            told, other = single(machine), turned(machine)
            self.check_single(machine, told, machine[0])
            self.check_single(machine, other, machine[0])
            for row in rows_of(machine, most_events=2):
                let = lets_by_words(machine, row)
                self.assertIs(lets(told, row), let, (machine, row))
                self.assertIs(lets(other, row), not let and all(a in machine[0] for a, _ in row[1]), (machine, row))
                self.assertLessEqual(len(after_by_words(told, row)), 1)

    def test_long_rows(self):
        draw = random.Random(33)
        for machine in drawn_machines(34, 60, ("ab",)):
            told, other = single(machine), turned(machine)
            for _ in range(15):
                row = drawn_row(draw, machine[0], 9)
                let = lets_by_words(machine, row)
                self.assertEqual([lets(told, row), lets(other, row)], [let, not let], (machine, row))

    def test_over_the_whole(self):
        for machine in drawn_machines(35, 60):
            told, other = single(machine), turned(machine)
            self.assertIsNone(parted(machine, told), machine)
            self.assertIsNone(parted(told, turned(other)), machine)
            self.assertIsNone(within(both(told, other), NONE), machine)
            full = (machine[0], 1, (0,), (0,), tuple((0, a, (), 0) for a in machine[0]))
            self.assertIsNone(within(full, either(machine, other)), machine)

    def test_few_states(self):
        # no more states than there are sets of states
        for machine in [register((("a", (0, False), (1, True)),)), register((("b", (1, False), (2, False)),)),
                        cycle(4, (0,), (("a", (0, False), (1, True)),))]:
            self.assertLessEqual(single(machine)[1], 16)
            self.assertLessEqual(turned(machine)[1], 16)
            self.assertLessEqual(turned(turned(machine))[1], 16)
            self.assertLessEqual(len(turned(machine)[4]), 1000)
            self.assertIsNone(parted(single(machine), machine))
            self.assertIsNone(parted(turned(turned(machine)), machine))

    def test_few_steps(self):
        # stretches that touch and lead to one state are told in one step
        parts = [("a", (k // 2, k % 2 == 1), None if k == 5 else ((k + 1) // 2, k % 2 == 1)) for k in range(6)]
        steps = tuple((0, "a", (limit,), k // 3) for k, limit in enumerate(parts))
        machine = ("ab", 2, (0, 1), (1,), steps + steps[:1] + ((0, "a", (("a", None, None),), 0),))
        self.assertEqual(len(single(machine)[4]), 6)
        self.assertEqual(single(machine)[1], 3)
        self.assertIsNone(parted(single(machine), machine))
        # a limit that is always met needs no steps of its own
        always = ("ab", 2, (0,), (1,), ((0, "a", (), 1), (0, "a", (("b", (1, False), None),), 1)))
        self.assertEqual(single(always)[4], ((0, "a", (), 1),))

    def test_numbers_are_no_greater(self):
        for machine in drawn_machines(36, 60):
            for told in [single(machine), turned(machine)]:
                self.assertLessEqual(greatest_by_words(told), greatest_by_words(machine))


class JoinedTest(unittest.TestCase):
    def check_rows(self, one, other):
        let = {both: lambda truths: all(truths), either: lambda truths: any(truths)}
        for call in let:
            told = call(one, other)
            self.assertIs(is_machine(told), True)
            self.assertEqual(told[0], "".join(sorted(set(one[0] + other[0]))))
            for row in rows_of(one, other, most_events=2):
                wanted = let[call]([lets_by_words(one, row), lets_by_words(other, row)])
                self.assertIs(lets(told, row), wanted, (call, one, other, row))

    def test_by_hand(self):
        for one, other in [(TWO, ONCE), (ALL, NONE), (NONE, NONE), (ALL, SOON), (SOON, ONCE)]:
            self.check_rows(one, other)
            self.check_rows(other, one)

    def test_other_letters(self):
        only = {letters: (letters, 1, (0,), (0,), tuple((0, a, (), 0) for a in letters))
                for letters in ["a", "b", "bc"]}
        self.check_rows(only["a"], only["b"])
        self.check_rows(only["bc"], only["b"])
        self.check_rows(only["a"], only["bc"])
        self.assertEqual(both(only["bc"], only["a"])[0], "abc")
        self.assertEqual(either(only["bc"], only["a"])[0], "abc")
        # limits may name a letter that the other one does not have
        self.check_rows(("ab", 1, (0,), (0,), ((0, "b", (("a", None, None),), 0),)), only["b"])

    def test_without_starts(self):
        for one in [NONE, ("ab", 2, (), (0, 1), ALL[4])]:
            for other in [NONE, ALL]:
                self.assertIsNone(within(both(one, other), NONE))
                self.assertIsNone(parted(either(one, other), other))
                self.assertIsNone(parted(either(other, one), other))

    def test_several_starts_and_ends(self):
        one = ("a", 3, (0, 1), (1, 2), ((0, "a", (), 2), (1, "a", (("a", None, None),), 0)))
        other = ("a", 3, (0, 2), (0, 1), ((2, "a", (), 1), (0, "a", (("", (1, False), None),), 2)))
        self.check_rows(one, other)
        self.check_rows(other, one)

    def test_limits_of_both_hold_together(self):
        # between the two limits lies one moment, or none
        for least, most in [((1, False), (1, False)), ((1, True), (1, False)), ((1, False), (1, True))]:
            never = ("a", None, None)
            self.check_rows(two_steps(("a", least, None), never), two_steps(("a", (0, False), most), never))

    def test_rows(self):
        draw = random.Random(37)
        for _ in range(30):
            self.check_rows(wide_machine(draw, draw.choice(["a", "ab", "b"]), 3, 8, 1),
                            wide_machine(draw, draw.choice(["a", "ab", "b"]), 3, 8, 1))

    def test_over_the_whole(self):
        machines = list(drawn_machines(38, 40, ("ab",)))
        for one, other in zip(machines[::2], machines[1::2]):
            if not one[0] == other[0] == "ab":
                continue
            self.assertIsNone(parted(both(one, other), both(other, one)))
            self.assertIsNone(parted(either(one, other), either(other, one)))
            self.assertIsNone(within(both(one, other), one))
            self.assertIsNone(within(one, either(one, other)))
            self.assertIsNone(parted(both(one, one), one))
            # what is not in either is in neither
            neither = both(turned(one), turned(other))
            self.assertIsNone(parted(turned(either(one, other)), neither))
            self.assertEqual(within(one, other) is None, Slow(both(one, turned(other))).least([(True,)]) is None)

    def test_within_as_both_tell(self):
        machines = list(drawn_machines(39, 30, ("ab",)))
        for one, other in zip(machines[::2], machines[1::2]):
            self.assertEqual(compared(one, other)[0] == "within", parted(both(one, other), one) is None)

    def test_both_of_single_ones_are_single(self):
        for one, other in zip(drawn_machines(40, 20), drawn_machines(41, 20)):
            told = both(single(one), single(other))
            self.assertIs(is_single(told), True)
            self.assertTrue(is_single_by_words(told))

    def test_numbers_are_no_greater(self):
        for one, other in zip(drawn_machines(42, 30), drawn_machines(43, 30)):
            for told in [both(one, other), either(one, other)]:
                self.assertLessEqual(greatest_by_words(told), greatest_by_words(one, other))


class ErrorsTest(unittest.TestCase):
    def test_no_machine(self):
        for thing in anything() + spoiled(SOON):
            for call in [is_single, single, turned]:
                with self.assertRaises(NoMachine):
                    call(thing)
            for call in [both, either]:
                with self.assertRaises(NoMachine):
                    call(thing, SOON)
                with self.assertRaises(NoMachine):
                    call(SOON, thing)

    def test_anything_at_each_place(self):
        for thing in filled(WIDE):
            for call, arguments in [(is_single, [thing]), (single, [thing]), (turned, [thing]), (both, [WIDE, thing]),
                                    (either, [thing, WIDE])]:
                if not is_machine(thing):
                    with self.assertRaises(NoMachine):
                        call(*arguments)
                elif thing[1] < 100 and len(thing[0]) < 5:
                    call(*arguments)


class OwnershipTest(unittest.TestCase):
    def test_arguments_are_as_before_and_results_equal(self):
        told = repr((WIDE, SOON))
        first = [single(WIDE), turned(WIDE), both(WIDE, SOON), either(WIDE, SOON), is_single(WIDE)]
        self.assertEqual(repr([single(WIDE), turned(WIDE), both(WIDE, SOON), either(WIDE, SOON), is_single(WIDE)]),
                         repr(first))
        self.assertEqual(repr((WIDE, SOON)), told)

    def test_by_names(self):
        self.assertIs(is_single(machine=ALL), True)
        self.assertIs(is_machine(single(machine=WIDE)), True)
        self.assertIs(is_machine(turned(machine=WIDE)), True)
        row = (1, (("a", 0),))
        self.assertIs(lets(both(other=ALL, one=ONCE), row), True)
        self.assertIs(lets(either(other=ALL, one=ONCE), row), True)


if __name__ == "__main__":
    unittest.main()
