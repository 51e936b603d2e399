"""Points 2, 3 and 14 to 17: the largest machines, watches, texts and told rows are done with promptly."""

import random
import time
import unittest

from drawing import cycle, gate, register, wide_machine
from samples import deep
from words import greatest_by_words

from sinceclocks.comparing import within
from sinceclocks.errors import NoLetters, NoMachines, NoText, NoTold
from sinceclocks.joining import either, is_single, single, turned
from sinceclocks.machines import is_machine, lets
from sinceclocks.rows import is_row
from sinceclocks.seeing import alike, fitting, picture
from sinceclocks.telling import left, next_row
from sinceclocks.texts import machine_text, read_machine, read_row, row_text
from sinceclocks.watch import Watch
from sinceclocks.watching import verdict

SECONDS = 4
ALPHABET = "abcdefghijklmnopqrstuvwxyz"
SOON = register((("a", (0, False), (1, True)),))
LATE = register((("", (0, True), None), ("a", (1, True), None), ("b", (0, False), (2, False))))
EIGHT = either(SOON, LATE)
# a machine that lets all rows, though which of its states go together hangs on many times
FULL = EIGHT[:3] + (tuple(range(8)),) + EIGHT[4:]
# two machines of two states and four steps that change with each letter, and let no rows of one parity of letters
TURNS = ("ab", 2, (0,), (0,), ((0, "a", (), 1), (1, "a", (), 0), (0, "b", (("b", (0, True), None),), 1),
                              (1, "b", (), 0)))
FORTH = ("ab", 2, (0, 1), (0, 1), ((1, "b", (), 1), (0, "b", (("a", (0, True), None),), 0), (1, "a", (), 0),
                                  (0, "a", (), 1)))


def largest_machine():
    """26 letters, 20 states, 60 steps with three limits each, numbers up to 1,000."""
    steps = tuple((k % 20, ALPHABET[k * 7 % 26], (("", (0, False), (1000 - k % 3, False)),
                                                  (ALPHABET[k % 26], (k * 16 % 1000, True), (1000, k % 2 == 0)),
                                                  (ALPHABET[k * 3 % 26], None, None)), k * 3 % 20)
                  for k in range(60))
    return (ALPHABET, 20, tuple(range(20)), tuple(range(0, 20, 2)), steps)


def longest_row(shift=0, letters=ALPHABET):
    """60 events, the last of them at about 10,000 ticks of a hundredth of a unit."""
    return (100, tuple((letters[k * 7 % len(letters)], 160 * (k + 1) + shift) for k in range(60)))


def renamed(machine, letters):
    """The machine with other letters in the places of a and b."""
    names = {"a": letters[0], "b": letters[1], "": ""}
    steps = tuple((s, names[a], tuple((names[x], least, most) for x, least, most in limits), t)
                  for s, a, limits, t in machine[4])
    return (letters,) + machine[1:4] + (steps,)


class SizesTest(unittest.TestCase):
    def setUp(self):
        self.begun = time.process_time()

    def tearDown(self):
        self.assertLess(time.process_time() - self.begun, SECONDS)

    def test_left_of_the_largest_machines(self):
        machines = [largest_machine()] * 10 + [EIGHT, single(SOON), turned(LATE)] + [largest_machine()] * 7
        told = [(longest_row(shift), shift % 2 == 0) for shift in range(20)]
        self.assertIsInstance(left(machines, told), list)
        self.assertEqual(left(machines, [(longest_row(), lets(machines[0], longest_row()))] * 20)[:10], list(range(10)))
        free = (ALPHABET, 1, (0,), (0,), tuple((0, a, (), 0) for a in ALPHABET))
        self.assertEqual(left([free] * 20, [(row, True) for row, _ in told]), list(range(20)))

    def test_left_of_returned_machines(self):
        machines = [turned(SOON), single(LATE), cycle(16, (15,)), EIGHT] * 5
        told = [(longest_row(shift, "ab"), lets(EIGHT, longest_row(shift, "ab"))) for shift in range(20)]
        numbers = left(machines, told)
        self.assertTrue({3, 7, 11, 15, 19} <= set(numbers))
        self.assertEqual([lets(machines[k], row) == truth for k in numbers for row, truth in told],
                         [True] * 20 * len(numbers))

    def test_next_row_of_four(self):
        for machines, wanted in [([TURNS] * 4, None), ([TURNS, FORTH] * 2, 2), ([TURNS, TURNS, TURNS, FORTH], 3),
                                 ([TURNS, renamed(TURNS, "cd"), renamed(TURNS, "ef"), renamed(TURNS, "gh")], 3),
                                 ([FORTH, renamed(FORTH, "bc"), renamed(TURNS, "ac"), renamed(TURNS, "cd")], 2)]:
            answer = next_row(machines, [])
            if wanted is None:
                self.assertIsNone(answer)
            else:
                row, many = answer
                self.assertIs(is_row(row), True)
                self.assertEqual(many, wanted)
                self.assertEqual(max(len(left(machines, [(row, truth)])) for truth in (True, False)), many)

    def test_next_row_of_four_drawn_ones(self):
        draw = random.Random(161)
        for _ in range(25):
            letters = draw.choice([["ab"], ["ab", "bc"], ["ab", "cd", "ef", "gh"]])
            machines = [renamed(wide_machine(draw, "ab", 2, 4), draw.choice(letters)) for _ in range(4)]
            told = []
            while (answer := next_row(machines, told)) is not None:
                told.append((answer[0], draw.random() < 0.5))
                self.assertLessEqual(len(left(machines, told)), answer[1])

    def test_four_left_of_twenty(self):
        machines = [TURNS, FORTH, renamed(TURNS, "bc"), renamed(FORTH, "bc")] + [register(())] * 16
        row = longest_row(letters="b")
        told = [(row, lets(machines[0], row))] * 10 + [((1, ()), True)] * 10
        self.assertFalse(any(number > 3 for number in left(machines, told)))
        next_row(machines, told)

    def test_next_row_of_two_of_the_largest(self):
        for one in [SOON, LATE, EIGHT, single(SOON), cycle(16, (15,))]:
            for other in [SOON, LATE, single(SOON), turned(SOON), cycle(16, (14, 15))]:
                answer = next_row([one, other], [])
                self.assertIs(answer is None, within(one, other) is None and within(other, one) is None)
                if answer is not None:
                    self.assertEqual(answer[1], 1)
                    self.assertNotEqual(lets(one, answer[0]), lets(other, answer[0]))

    def watch_on(self, machine, grain, wait):
        """A watch of 30 events, of which each verdict is asked for, and then taken back."""
        watch, words = Watch(machine, grain), []
        for k in range(30):
            words.append(watch.come("ab"[k * k % 3 % 2], (wait * k) % 201))
            for ahead in (0, 1, grain, 200):
                self.assertIsInstance(watch.hopes(ahead), list)
            watch.states()
        self.assertEqual([len(watch), words[-1]], [30, verdict(machine, watch.row())])
        while watch.back():
            self.assertEqual(watch.verdict(), words[len(watch) - 1] if len(watch) else verdict(machine, (grain, ())))

    def test_watches_of_registers(self):
        for machine in [SOON, LATE, EIGHT, single(LATE), turned(SOON), cycle(16, (15,))]:
            self.watch_on(machine, 20, 37)

    def test_watches_of_what_lets_all_or_none(self):
        for machine in [FULL, cycle(16, tuple(range(16))), cycle(16, ())]:
            self.watch_on(machine, 20, 7)

    def test_watches_of_drawn_machines(self):
        draw = random.Random(162)
        for k in range(8):
            machine = gate(draw) if k % 2 else wide_machine(draw, "ab", 4, 10)
            self.watch_on(machine, draw.choice([1, 20]), draw.randrange(1, 40))

    def test_watch_of_many_open_verdicts(self):
        # behind each event only the machine that lets a row of 15 more letters has hopes
        watch = Watch(cycle(16, (15,), (("a", (0, False), None),)), 20)
        self.assertEqual([watch.come("a", 1) for _ in range(30)], ["no"] * 30)
        watch = Watch(cycle(16, (15,)), 20)
        self.assertEqual([watch.come("a", 1) for _ in range(30)], ["open"] * 30)

    def test_texts_of_the_largest_machines(self):
        machine = largest_machine()
        text = machine_text(machine)
        for _ in range(20):
            self.assertEqual(read_machine(text), machine)
        lines = text.split("\n")
        self.assertEqual(len(lines), 64)
        for k in range(64):
            for line in [lines[k] + " ", "", lines[k].replace(" ", "  ", 1), lines[k] + " afrom0under"]:
                with self.assertRaises(NoText) as caught:
                    read_machine("\n".join(lines[:k] + [line] + lines[k + 1:]))
                self.assertEqual(caught.exception.line, k + 1)
        for returned in [turned(EIGHT), single(EIGHT)]:
            self.assertEqual(read_machine(machine_text(returned)), returned)

    def test_texts_of_the_longest_rows(self):
        for row in [longest_row(), (10 ** 30 - 1, longest_row()[1]), (1, tuple(("z", 10000) for _ in range(60)))]:
            for _ in range(50):
                self.assertEqual(read_row(row_text(row)), row)

    def test_texts_of_4000_characters(self):
        row = "\n".join(["grain 1"] + ["a 1"] * 998)
        self.assertEqual(len(row), 3999)
        self.assertEqual(len(read_row(row)[1]), 998)
        machine = "\n".join(["letters a", "states 1", "starts", "ends"] + ["step 0 a 0 anever"] * 220)
        self.assertEqual(len(read_machine(machine)[4]), 220)
        wide = "letters a\nstates 1\nstarts\nends\nstep 0 a 0" + " anever" * 560
        self.assertEqual(len(read_machine(wide)[4][0][2]), 560)
        for text, told in [("\n" * 4000, 1), (" " * 4000, 1), ("~" * 4000, 1), ("grain " + "9" * 3994, 1),
                           ("grain 1\n" + "a " * 1996, 2), (row + "\n", 1000), (row + "\na", 1000)]:
            with self.assertRaises(NoText) as caught:
                read_row(text)
            self.assertEqual(caught.exception.line, told)
        starts = "letters a\nstates 2000\nstarts " + " ".join(str(k) for k in range(900)) + "\nends"
        self.assertEqual(len(read_machine(starts)[2]), 900)
        for text, told in [("letters " + "ab" * 1990, 1), (machine + "\n", 225), (wide + "afrom0to" * 20, 5),
                           ("letters a\nstates 1\nstarts" + " 0" * 1900 + "\nends", 5), ("\n" * 4000, 1)]:
            with self.assertRaises(NoText) as caught:
                read_machine(text)
            self.assertEqual(caught.exception.line, told)

    def test_alike_of_the_longest_rows(self):
        for shift in range(20):
            # the first event comes between one unit and two, the fifth one in just eight units
            for m in (0, 1):
                self.assertIs(alike(longest_row(), longest_row(shift), m), True)
            for m in (19, 20):
                self.assertIs(alike(longest_row(), longest_row(shift), m), shift == 0)
            self.assertIs(alike(longest_row(), longest_row(shift, "ab"), 20), False)

    def test_pictures_of_the_longest_rows(self):
        for m in (0, 1, 20):
            machine = picture(longest_row(), ALPHABET, m)
            self.assertIs(is_machine(machine), True)
            self.assertLessEqual(greatest_by_words(machine), m)
            self.assertIs(lets(machine, longest_row()), True)
            self.assertIs(lets(machine, longest_row(0, "ab")), False)
        self.assertIs(is_single(picture(longest_row(), ALPHABET, 2)), True)
        seven = picture((100, longest_row(0, "ab")[1][:7]), "ab", 2)
        self.assertIsNone(within(seven, seven))

    def test_fitting_of_twenty_rows(self):
        told = [(longest_row(shift), shift % 2 == 0) for shift in range(20)]
        self.assertEqual(fitting(told, 20)[0], "rows")
        apart = [((100, tuple((a, time + 100 * shift) for a, time in longest_row()[1][:60 - shift])), shift % 3 == 0)
                 for shift in range(20)]
        kind, machine = fitting(apart, 20)
        self.assertEqual(kind, "machine")
        self.assertLessEqual(greatest_by_words(machine), 20)
        for row, truth in apart:
            self.assertIs(lets(machine, row), truth)
        self.assertEqual(fitting([(longest_row(), True)] * 19 + [(longest_row(), False)], 20), ("rows", 0, 19))
        self.assertEqual(fitting([(longest_row(), False)] * 20, 20)[0], "machine")

    def test_things_that_are_none(self):
        for thing in [deep(20), deep(400), tuple(range(1000)), "~" * 4000, [()] * 999, [deep(20)] * 20]:
            with self.assertRaises(NoMachines):
                left(thing, thing)
            with self.assertRaises(NoTold):
                left([largest_machine()], thing)
            with self.assertRaises(NoTold):
                fitting(thing, 20)
            with self.assertRaises(NoLetters):
                picture(longest_row(), thing, 20)
            self.assertIs(thing in Watch(SOON, 20), False)


if __name__ == "__main__":
    unittest.main()
