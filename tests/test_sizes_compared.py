"""Points 2, 3 and 9 to 13, 18: the largest machines are compared, joined, counted and watched promptly."""

import random
import time
import unittest

from drawing import cycle, gate, register, wide_limit
from samples import deep
from words import greatest_by_words

from sinceclocks.comparing import compared, first_row, is_table, parted, within
from sinceclocks.counting import how_many
from sinceclocks.joining import both, either, is_single, single, turned
from sinceclocks.machines import is_machine, lets
from sinceclocks.rows import is_row
from sinceclocks.watching import decided, silence, verdict, windows

SECONDS = 4
# four states, and at each event three guesses at the most
SOON = register((("a", (0, False), (1, True)),))
MIDST = register((("b", (1, False), (2, True)),))
LATE = register((("", (0, True), None), ("a", (1, True), None), ("b", (0, False), (2, False))))
EIGHT = either(SOON, MIDST)
ALPHABET = "abcdefghijklmnopqrstuvwxyz"


def largest_machine(draw):
    """Four states, ten steps, three limits each."""
    steps = tuple((draw.randrange(4), draw.choice("ab"), tuple(wide_limit(draw, "ab") for _ in range(3)),
                   draw.randrange(4))
                  for _ in range(10))
    return ("ab", 4, (0, 1, 2, 3), (draw.randrange(4),), steps)


def free_machine(draw):
    """Four states and ten steps, so few of them with limits that most states go together."""
    steps = tuple((k % 4, "ab"[k // 4 % 2], (wide_limit(draw, "ab"),) if k > 4 else (),
                   draw.randrange(4)) for k in range(10))
    return ("ab", 4, (0,), (0, 1, 2), steps)


class SizesTest(unittest.TestCase):
    def setUp(self):
        self.begun = time.process_time()

    def tearDown(self):
        self.assertLess(time.process_time() - self.begun, SECONDS)

    def test_registers(self):
        for one in [SOON, MIDST, LATE, EIGHT]:
            for other in [SOON, LATE, EIGHT, single(SOON)]:
                kind, told = compared(one, other)
                row = within(one, other)
                self.assertIs(row is None, kind == "within")
                if kind == "within":
                    self.assertIs(is_table(one, other, told), True)
                    self.assertIs(is_table(one, other, told[:-1]), False)
                    self.assertIs(is_table(one, other, told[::-1] + told[:1]), False)
                else:
                    self.assertTrue(lets(one, row) and not lets(other, row))
                    self.assertEqual(len(told[1]), len(row[1]))

    def test_drawn_machines(self):
        draw = random.Random(81)
        for k in range(10):
            one, other = largest_machine(draw), free_machine(draw)
            for few, many in [(one, other), (other, one), (either(one, other), other), (other, either(one, other))]:
                kind, told = compared(few, many)
                if kind == "within":
                    self.assertIs(is_table(few, many, told), True)
                parted(few, many)

    def test_single_and_turned_machines(self):
        draw = random.Random(82)
        for machine in [SOON, LATE] + [free_machine(draw) for _ in range(8)]:
            alone, other = single(machine), turned(machine)
            self.assertLessEqual(max(alone[1], other[1]), 16)
            self.assertIs(is_single(alone), True)
            self.assertIs(is_single(turned(other)), True)
            self.assertIsNone(parted(alone, turned(other)))
            self.assertIsNone(first_row(both(alone, other)))
            self.assertEqual(compared(alone, machine)[0], "within")
            self.assertEqual(compared(machine, turned(other))[0], "within")

    def test_eight_states(self):
        alone, other = single(EIGHT), turned(EIGHT)
        self.assertTrue(is_machine(alone) and is_machine(other) and is_single(alone) and is_single(other))
        row = (100, tuple(("ab"[k % 2], k * 70) for k in range(60)))
        self.assertEqual([lets(alone, row), lets(other, row)], [lets(EIGHT, row), not lets(EIGHT, row)])
        # two single machines of four states, with as many steps as they may have
        draw = random.Random(83)
        wide = [single(free_machine(draw)) for _ in range(12)]
        for one in wide:
            if one[1] <= 4:
                joined = either(one, wide[0])
                self.assertIs(is_single(single(joined)), True)
                self.assertIs(is_machine(turned(joined)), True)

    def test_far_rows(self):
        # sixteen and fifteen states, and a way of 239 letters
        one, other = cycle(16, (15,), (("a", (0, False), None),)), cycle(15, tuple(range(14)))
        one = ("ab", 17, (16,), (15,), one[4] + ((16, "a", (), 1),))
        row = within(one, other)
        self.assertEqual(len(row[1]), 239)
        self.assertTrue(is_row(row) and lets(one, row) and not lets(other, row))
        self.assertLessEqual(row[0], 240)
        waits = [after - ahead for (_, ahead), (_, after) in zip(row[1], row[1][1:])]
        self.assertLessEqual(max(waits), greatest_by_words(one, other) * row[0] + 1)
        self.assertEqual(len(compared(one, other)[1][1]), 239)
        # behind each letter a wait of more than two units
        one = ("ab", 17, (16,), (15,), cycle(16, (15,), (("a", (2, True), None),))[4] + ((16, "a", (), 1),))
        row = parted(one, both(one, other))
        self.assertEqual(len(row[1]), 239)
        self.assertTrue(lets(one, row) and not lets(other, row))

    def test_letters_of_their_own(self):
        draw = random.Random(84)
        for k in range(10):
            one, other = free_machine(draw), largest_machine(draw)
            letters = "cd" if k % 2 else "bc"
            names = {"a": letters[0], "b": letters[1], "": ""}
            steps = tuple((s, names[a], tuple((names[x], least, most) for x, least, most in limits), t)
                          for s, a, limits, t in other[4])
            other = (letters,) + other[1:4] + (steps,)
            kind, told = compared(one, other)
            self.assertIs(kind == "within", within(one, other) is None)
            parted(one, other)
            for told in [both(one, other), either(one, other)]:
                self.assertEqual(told[0], "abcd" if k % 2 else "abc")
            # single machines of four letters are more than callers pass
            self.assertIs(is_single(single(both(one, other))), True)

    def test_a_great_table_that_is_none(self):
        kind, table = compared(EIGHT, EIGHT)
        for k in range(0, len(table), 40):
            ones, others, here = table[k]
            for bent in [(ones, (), here), (ones, others, here[::-1]), (ones, others, here + (None,)), (ones, here),
                         None]:
                if bent == table[k]:
                    continue
                self.assertIs(is_table(EIGHT, EIGHT, table[:k] + [bent] + table[k + 1:]), False)
        for thing in [deep(20), list(range(999)), [()] * 999, [((0,), (0,), ((0, 0), None, None))] * 200, [[]] * 999]:
            self.assertIs(is_table(EIGHT, EIGHT, thing), False)

    def test_is_single_of_the_most_steps(self):
        steps = tuple((k % 20, ALPHABET[k % 26], ((ALPHABET[k * 7 % 26], (k, False), (1000, k % 2 == 0)),
                                                  ("", (1000 - k, True), None), (ALPHABET[k % 5], None, None)),
                       k * 3 % 20)
                      for k in range(60))
        for k in range(20):
            self.assertIs(is_single((ALPHABET, 20, (k,), (), steps)), True)
        self.assertIs(is_single((ALPHABET, 20, (3,), (), steps[:59] + (steps[1],))), False)
        apart = tuple((0, "a", (("a", (k, False), (k + 1, True)),), 0) for k in range(60))
        self.assertIs(is_single((ALPHABET, 20, (3,), (), apart)), True)
        parts = [(None, None)] + [((k // 2, k % 2 == 1), None if k == 5 else ((k + 1) // 2, k % 2 == 1))
                                  for k in range(6)]
        cells = [(("a",) + some, ("b",) + other, ("",) + begin)
                 for some in parts for other in parts for begin in parts[1:]]
        machine = ("ab", 1, (0,), (0,), tuple((0, "a", cell, 0) for cell in cells))
        self.assertEqual(len(cells), 294)
        self.assertIs(is_single(machine), True)
        # all cells lead to one state, by a; the b leads nowhere, and so does all that comes behind it
        self.assertEqual(len(turned(machine)[4]), 4)

    def test_counting(self):
        for machine in [SOON, MIDST, LATE, EIGHT, single(LATE), turned(EIGHT)]:
            for n, most in [(9, 13), (9, 0), (0, 13), (1, 13)]:
                self.assertGreaterEqual(how_many(machine, n, most), 0)
        free = ("ab", 1, (0,), (0,), ((0, "a", (), 0), (0, "b", (), 0)))
        self.assertEqual(how_many(free, 9, 13), 497420 * 2 ** 9)
        self.assertEqual(how_many(EIGHT, 9, 13) + how_many(turned(EIGHT), 9, 13), 497420 * 2 ** 9)

    def test_watching(self):
        rows = [(100, tuple(("ab"[k * k % 3 % 2], 70 * k) for k in range(20))),
                (1, tuple(("ab"[k % 2], k // 4) for k in range(20))),
                (100, tuple(("ab"[k % 5 > 2], 33 * k) for k in range(20)))]
        draw = random.Random(85)
        machines = [SOON, MIDST, LATE, EIGHT, single(LATE), turned(SOON), turned(EIGHT), gate(draw)]
        for machine in machines + [free_machine(draw) for _ in range(4)]:
            for row in rows:
                decided(machine, row)
                self.assertIn(verdict(machine, row), ["yes", "no", "open"])
                windows(machine, row, "a")
                windows(machine, row, "b")
                silence(machine, row)

    def test_watching_what_lets_all(self):
        draw = random.Random(86)
        for machine in [SOON, LATE, EIGHT] + [free_machine(draw) for _ in range(5)]:
            full, none = either(machine, turned(machine)), both(single(machine), turned(machine))
            row = (100, tuple(("ab"[k % 2], k * 55) for k in range(20)))
            self.assertEqual([verdict(full, row), verdict(none, row)], ["yes", "no"])
            self.assertEqual([decided(full, row), decided(none, row)], [0, 0])
            self.assertEqual([windows(full, row, "a"), windows(none, row, "a")], [[((0, False), None)], []])
            self.assertEqual([silence(full, row), silence(none, row)], [((0, False), "yes"), ((0, False), "no")])

    def test_long_rows(self):
        row = (100, tuple(("ab"[k % 2], 10000 * (k + 1) // 60) for k in range(60)))
        for machine in [SOON, LATE, EIGHT, turned(EIGHT)]:
            self.assertEqual(verdict(machine, row), "open")


if __name__ == "__main__":
    unittest.main()
