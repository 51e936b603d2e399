"""Points 2, 3 and 8: the largest sizes are told promptly."""

import time
import unittest

from samples import deep

from sinceclocks.errors import NoBound, NoLook, NoRow
from sinceclocks.looks import came, later, look
from sinceclocks.machines import after, is_machine, lets
from sinceclocks.rows import is_row, since

ALPHABET = "abcdefghijklmnopqrstuvwxyz"
GREAT = 10 ** 30 - 1
SECONDS = 2


def long_row(count, letters=ALPHABET):
    """So many events, the last of them at 10,000 ticks of a hundredth of a unit."""
    return (100, tuple((letters[k * 7 % len(letters)], 10000 * (k + 1) // count) for k in range(count)))


def full_machine():
    """The most letters, states, steps and limits, all of which hold now and then."""
    steps = []
    for k in range(60):
        limits = (("", (0, False), (1000, False)), (ALPHABET[k % 26], None, None), ("", (0, True), None))
        steps.append((k % 20, ALPHABET[k * 7 % 26], limits if k % 3 else (), k * 3 % 20))
    return (ALPHABET, 20, tuple(range(20)), tuple(range(0, 20, 2)), tuple(steps))


def returned_machine(many, each):
    """As large as a machine that some function may return: all states at once, with many steps each."""
    steps = []
    for s in range(many):
        for k in range(each):
            limits = (("", (0, False), None), ("a", (0, False), (2, k % 2 == 0)), ("b", (0, True), None))
            steps.append((s, "ab"[k % 2], limits if k % 5 else (), (s * 5 + k) % many))
    return ("ab", many, tuple(range(many)), (many - 1,), tuple(steps))


class SizesTest(unittest.TestCase):
    def setUp(self):
        self.begun = time.process_time()

    def tearDown(self):
        self.assertLess(time.process_time() - self.begun, SECONDS)

    def test_rows(self):
        row = long_row(61)
        for _ in range(100):
            self.assertIs(is_row(row), True)
        row = long_row(60)
        self.assertEqual(row[1][-1][1], 10000)
        told = [since(row, i, x) for i in range(60) for x in ALPHABET + "z"]
        self.assertEqual(told[0], None)
        self.assertEqual(since(row, 59, ""), 10000)

    def test_machine_with_the_most_of_all(self):
        machine, row = full_machine(), long_row(60)
        self.assertIs(is_machine(machine), True)
        for _ in range(20):
            self.assertIn(lets(machine, row), [True, False])

    def test_returned_machines(self):
        row = long_row(60, "ab")
        machine = returned_machine(16, 62)
        self.assertEqual(after(machine, row), list(range(16)))

    def test_returned_machines_of_any_size(self):
        machine = returned_machine(2000, 5)
        self.assertIs(is_machine(machine), True)
        row = (1, (("a", 0), ("b", 1), ("a", 3)))
        self.assertIn(lets(machine, row), [True, False])

    def test_great_numbers(self):
        self.assertIs(is_row((GREAT, (("a", GREAT), ("b", GREAT)))), True)
        machine = ("a", GREAT, (GREAT - 1,), (), ((0, "a", (("a", (GREAT, True), (GREAT, False)),), GREAT - 1),))
        self.assertIs(is_machine(machine), True)
        self.assertEqual(after(machine, (GREAT, (("a", GREAT),))), [])
        self.assertEqual(look((1, (("a", GREAT),)), "a", GREAT), ((GREAT, 0), (0, 0)))
        self.assertEqual(came(((GREAT, 0), None), "a", "a"), ((GREAT, 0), (0, 0)))
        for thing in [((GREAT, GREAT), None), ((GREAT, 0), (0, GREAT)), ((0, GREAT), (0, GREAT - 1))]:
            with self.assertRaises(NoLook):
                later(thing, GREAT)
            with self.assertRaises(NoLook):
                came(thing, "a", "a")

    def test_look_of_the_longest_rows(self):
        for count in range(61):
            row = long_row(count, "abc") if count else (100, ())
            for m in range(5):
                self.assertEqual(later(look(row, "abc", m), m)[0], look(row, "abc", m))

    def test_later_of_the_most_entries(self):
        # each of the 27 entries becomes 1, 2, 3 and 4 units old, at a moment of its own, and time goes on
        here = tuple((0, 27 - k) for k in range(27))
        looks = later(here, 4)
        self.assertEqual(len(looks), 1 + 27 * 4 * 2)
        self.assertEqual(looks[-1], ((5, 0),) * 27)
        self.assertEqual(len(later(here, 12)), 1 + 27 * 12 * 2)
        self.assertEqual(came(here, ALPHABET, "z"), tuple((0, 26 - k) for k in range(26)) + ((0, 0),))

    def test_things_that_are_none(self):
        for thing in [deep(20), deep(400), tuple(range(1000)), ((1,) * 1000, (1, ())), "~" * 4000, [()] * 999,
                      (1, (("a", 0),) * 300 + (("a", -1),))]:
            self.assertIs(is_row(thing), False)
            self.assertIs(is_machine(thing), False)
            with self.assertRaises(NoLook):
                later(thing, 4)
            with self.assertRaises(NoBound):
                later(((0, 0), None), thing)
            with self.assertRaises(NoRow):
                look(thing, "a", 4)


if __name__ == "__main__":
    unittest.main()
