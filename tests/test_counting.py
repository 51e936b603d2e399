"""Point 12, and points 2 to 4 as far as they tell of how_many."""

import random
import unittest
from math import comb

from drawing import cycle, drawn_machine, wide_machine
from samples import SOON, WIDE, anything, filled, spoiled
from words import lets_by_words, whole_rows

from sinceclocks.counting import how_many
from sinceclocks.errors import NoCount, NoMachine, NoMost
from sinceclocks.joining import both, either, single, turned
from sinceclocks.machines import is_machine

ALL = ("ab", 1, (0,), (0,), ((0, "a", (), 0), (0, "b", (), 0)))
A = ("a", 1, (0,), (0,), ((0, "a", (), 0),))
NONE = ("ab", 1, (), (), ())
SPACED = ("a", 1, (0,), (0,), ((0, "a", (("a", None, None),), 0), (0, "a", (("a", (2, False), None),), 0)))
NO_NUMBERS = [-1, -(10 ** 29), None, True, False, "", "0", "1", [], (), [0], (0,), [[]]]


class HowManyTest(unittest.TestCase):
    def test_example(self):
        self.assertEqual([how_many(SPACED, 2, 3), how_many(SPACED, 0, 3)], [3, 1])

    def test_by_hand(self):
        # times 0 to 3, of which the later is two behind the earlier: 0 2, 0 3, 1 3
        self.assertEqual([how_many(SPACED, n, 3) for n in range(4)], [1, 4, 3, 0])
        self.assertEqual([how_many(SPACED, 3, most) for most in range(3, 7)], [0, 1, 4, 10])
        # an a and two units behind it at most, but not just two, a b; other a's ahead of it
        self.assertEqual([how_many(SOON, n, 0) for n in range(4)], [0, 0, 1, 1])
        self.assertEqual(how_many(SOON, 2, 2), 5)

    def test_all_rows(self):
        # times are chosen with repetition, letters freely
        for n in range(6):
            for most in range(6):
                self.assertEqual(how_many(A, n, most), comb(n + most, n))
                self.assertEqual(how_many(ALL, n, most), comb(n + most, n) * 2 ** n)

    def test_no_events(self):
        for most in [0, 1, 13]:
            self.assertEqual([how_many(machine, 0, most) for machine in [ALL, NONE, SOON, WIDE, cycle(2, (1,))]],
                             [1, 0, 0, 1, 0])
        self.assertEqual(how_many(("a", 2, (0, 1), (0, 1), ()), 0, 5), 1)

    def test_at_the_begin_alone(self):
        for n in range(5):
            self.assertEqual(how_many(ALL, n, 0), 2 ** n)
        late = ("a", 1, (0,), (0,), ((0, "a", (("", (0, True), None),), 0),))
        self.assertEqual([how_many(late, 1, most) for most in range(4)], [0, 1, 2, 3])

    def test_machines_without_rows(self):
        for machine in [NONE, ("ab", 1, (), (0,), ALL[4]), ("ab", 1, (0,), (), ALL[4])]:
            for n in range(4):
                self.assertEqual(how_many(machine, n, 4), 0)
        self.assertEqual([how_many(("ab", 1, (0,), (0,), ()), n, 4) for n in range(3)], [1, 0, 0])
        # times between two units are no whole ones
        between = ("a", 1, (0,), (0,), ((0, "a", (("", (1, True), (2, True)),), 0),))
        self.assertEqual([how_many(between, n, 5) for n in range(3)], [1, 0, 0])

    def test_rows_count_once(self):
        # however many ways there are to let a row
        many = ("a", 2, (0, 1), (0, 1), ((0, "a", (), 0), (0, "a", (), 1), (1, "a", (), 1)) * 2)
        self.assertEqual(how_many(many, 3, 2), how_many(A, 3, 2))
        self.assertEqual(how_many(either(SPACED, SPACED), 3, 5), how_many(SPACED, 3, 5))

    def test_limits_with_great_numbers(self):
        late = ("a", 1, (0,), (0,), ((0, "a", (("", (5, False), (7, False)),), 0),))
        self.assertEqual([how_many(late, 1, most) for most in range(4, 10)], [0, 1, 2, 3, 3, 3])
        self.assertEqual(how_many(late, 2, 9), 6)

    def test_as_all_rows_tell(self):
        draw = random.Random(51)
        for k in range(60):
            machine = wide_machine(draw, draw.choice(["a", "ab"])) if k % 3 else drawn_machine(draw)
            n, most = draw.choice([(0, 3), (1, 5), (2, 4), (3, 3), (4, 1), (4, 2)])
            wanted = sum(lets_by_words(machine, row) for row in whole_rows(machine[0], n, most))
            self.assertEqual(how_many(machine, n, most), wanted, (machine, n, most))

    def test_over_the_whole(self):
        draw = random.Random(52)
        for _ in range(30):
            one, other = wide_machine(draw), wide_machine(draw)
            n, most = draw.randrange(6), draw.randrange(7)
            counts = [how_many(machine, n, most) for machine in [one, other, both(one, other), either(one, other)]]
            self.assertEqual(counts[0] + counts[1], counts[2] + counts[3])
            self.assertEqual(how_many(single(one), n, most), counts[0])
            self.assertEqual(how_many(turned(one), n, most), how_many(ALL, n, most) - counts[0])


class ErrorsTest(unittest.TestCase):
    def test_no_machine(self):
        for thing in anything() + spoiled(SOON):
            with self.assertRaises(NoMachine):
                how_many(thing, 2, 3)
            with self.assertRaises(NoMachine):
                how_many(thing, None, None)

    def test_anything_at_each_place(self):
        for thing in filled(SOON):
            if not is_machine(thing):
                with self.assertRaises(NoMachine):
                    how_many(thing, 2, 3)

    def test_no_count(self):
        for thing in anything() + NO_NUMBERS:
            with self.assertRaises(NoCount):
                how_many(SOON, thing, 3)
            with self.assertRaises(NoCount):
                how_many(SOON, thing, None)

    def test_no_most(self):
        for thing in anything() + NO_NUMBERS:
            for n in [0, 2]:
                with self.assertRaises(NoMost):
                    how_many(SOON, n, thing)

    def test_right_arguments_raise_nothing(self):
        for machine in [SOON, WIDE, ALL, NONE, ("c", 1, (), (), ())]:
            for n, most in [(0, 0), (0, 13), (9, 0)]:
                self.assertIsInstance(how_many(machine, n, most), int)


class OwnershipTest(unittest.TestCase):
    def test_arguments_are_as_before_and_results_equal(self):
        told = repr(WIDE)
        self.assertEqual(how_many(WIDE, 3, 4), how_many(WIDE, 3, 4))
        self.assertEqual(repr(WIDE), told)

    def test_by_names(self):
        self.assertEqual(how_many(most=3, n=2, machine=SPACED), 3)


if __name__ == "__main__":
    unittest.main()
