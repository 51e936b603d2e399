"""What holds over the whole program: the functions and the watch agree with one another."""

import random
import unittest

from drawing import changed_machine, drawn_row, finer, gate, shifted, wide_machine
from words import greatest_by_words

from sinceclocks.comparing import compared, first_row, is_table, parted, within
from sinceclocks.counting import how_many
from sinceclocks.joining import both, either, single, turned
from sinceclocks.machines import after, lets
from sinceclocks.rows import since
from sinceclocks.seeing import alike, fitting, picture
from sinceclocks.telling import left, next_row
from sinceclocks.texts import machine_text, read_machine, read_row, row_text
from sinceclocks.watch import Watch
from sinceclocks.watching import decided, silence, verdict, windows

OPPOSITE = {"yes": "no", "no": "yes", "open": "open"}


def some_machine(draw, k):
    """A machine, in turn one of several kinds; every third one is near to what lets all rows or none."""
    machine = gate(draw) if k % 5 == 0 else wide_machine(draw, draw.choice(["a", "ab", "ab"]))
    if k % 3 == 0:
        other = changed_machine(draw, turned(machine))
        machine = either(machine, other) if k % 2 else both(machine, other)
    return machine


def coarser(stretches, times):
    """The stretches, told in so many times finer ticks."""
    return [((low * times, sharp), most and (most[0] * times, most[1])) for (low, sharp), most in stretches]


def swapped(told):
    """What silence tells of the machine turned, if it tells this of the machine."""
    return told and (told[0], OPPOSITE[told[1]])


class VerdictsTest(unittest.TestCase):
    def test_what_is_not_open_stays(self):
        draw = random.Random(141)
        words = {"yes": 0, "no": 0, "open": 0}
        for k in range(120):
            machine = some_machine(draw, k)
            watch = Watch(machine, draw.choice([1, 2, 5]))
            word = watch.verdict()
            for _ in range(8):
                behind = watch.come(draw.choice(machine[0]), draw.randrange(3 * watch.row()[0]))
                self.assertEqual(behind, verdict(machine, watch.row()))
                if word != "open":
                    self.assertEqual(behind, word)
                word = behind
                words[word] += 1
            self.assertEqual(watch.come("z", 0), "no")
            self.assertEqual(watch.come("a", 0), "no")
        self.assertGreater(min(words.values()), 50, words)

    def test_decided_and_watch(self):
        draw = random.Random(142)
        for k in range(80):
            machine, row = some_machine(draw, k), drawn_row(draw, "aaabbbz" if k % 9 == 0 else "ab", 6)
            watch, words, now = Watch(machine, row[0]), [], 0
            words.append(watch.verdict())
            for letter, time in row[1]:
                words.append(watch.come(letter, time - now))
                now = time
            wanted = next((count for count, word in enumerate(words) if word != "open"), None)
            self.assertEqual(decided(machine, row), wanted)
            while watch.back():
                words.pop()
                self.assertEqual(watch.verdict(), words[-1])

    def test_single_and_turned(self):
        draw = random.Random(143)
        for k in range(60):
            machine = wide_machine(draw, draw.choice(["a", "ab"]))
            alone, other = single(machine), turned(machine)
            for _ in range(4):
                row = drawn_row(draw, machine[0], 5)
                word = verdict(machine, row)
                self.assertEqual([verdict(alone, row), verdict(other, row)], [word, OPPOSITE[word]])
                for a in "ab":
                    self.assertEqual(windows(alone, row, a), windows(machine, row, a))
                told = silence(machine, row)
                self.assertEqual([silence(alone, row), silence(other, row)], [told, swapped(told)])
                self.assertEqual([lets(alone, row), lets(other, row)], [lets(machine, row), not lets(machine, row)])

    def test_windows_and_verdicts(self):
        draw = random.Random(144)
        for k in range(60):
            machine, row = some_machine(draw, k), drawn_row(draw, "ab", 4)
            word, told = verdict(machine, row), silence(machine, row)
            if word == "no":
                self.assertEqual([windows(machine, row, a) for a in "abz"], [[], [], []])
            if word == "yes":
                self.assertEqual([windows(machine, row, a) for a in machine[0]], [[((0, False), None)]] * len(machine[0]))
            if word != "open":
                self.assertEqual(told, ((0, False), word))
            elif told is not None:
                self.assertEqual(told[1], "yes" if lets(machine, row) else "no")
                self.assertNotEqual(told[0], (0, False))

    def test_finer_grains(self):
        draw = random.Random(145)
        for k in range(80):
            machine, row, times = some_machine(draw, k), drawn_row(draw, "ab", 5), draw.randrange(2, 6)
            fine = finer(row, times)
            self.assertEqual([verdict(machine, fine), decided(machine, fine), after(machine, fine)],
                             [verdict(machine, row), decided(machine, row), after(machine, row)])
            for a in "ab":
                self.assertEqual(windows(machine, fine, a), coarser(windows(machine, row, a), times))
            told = silence(machine, row)
            self.assertEqual(silence(machine, fine), told and ((told[0][0] * times, told[0][1]), told[1]))
            self.assertIs(alike(row, fine, 2), True)
            for k in range(len(row[1])):
                ticks = since(row, k, "a")
                self.assertEqual(since(fine, k, "a"), None if ticks is None else ticks * times)


class TextsTest(unittest.TestCase):
    def test_machines_read_from_their_texts(self):
        draw = random.Random(146)
        for k in range(60):
            machine = some_machine(draw, k)
            again = read_machine(machine_text(machine))
            self.assertEqual([again, single(again), turned(again)], [machine, single(machine), turned(machine)])
            for _ in range(3):
                row = drawn_row(draw, "ab", 4)
                written = read_row(row_text(row))
                self.assertEqual([verdict(again, written), lets(again, written)],
                                 [verdict(machine, row), lets(machine, row)])
            self.assertEqual(how_many(again, 3, 3), how_many(machine, 3, 3))
            self.assertIsNone(parted(again, machine))

    def test_what_is_returned_is_written_and_read(self):
        draw = random.Random(147)
        for k in range(40):
            one, other = some_machine(draw, k), wide_machine(draw)
            for row in [within(one, other), parted(one, other), first_row(one)]:
                if row is not None:
                    self.assertEqual(read_row(row_text(row)), row)
            row = drawn_row(draw, "ab", 5)
            for machine in [picture(row, "abc", 2), fitting([(row, True)], 1)[1], both(one, other)]:
                self.assertEqual(read_machine(machine_text(machine)), machine)


class PicturesTest(unittest.TestCase):
    def test_pictures_within_one_another(self):
        draw = random.Random(148)
        counts = {True: 0, False: 0}
        for k in range(200):
            row, m = drawn_row(draw, "ab", 4), draw.randrange(3)
            other = shifted(draw, row, 6)
            one, two = picture(row, "ab", m), picture(other, "ab", m)
            equal = alike(row, other, m)
            counts[equal] += 1
            self.assertEqual([within(one, two) is None, within(two, one) is None, parted(one, two) is None],
                             [equal] * 3)
            self.assertIs(first_row(both(one, two)) is not None, equal)
            kind, table = compared(one, two)
            self.assertEqual(kind, "within" if equal else "row")
            if equal:
                self.assertIs(is_table(one, two, table), True)
        self.assertGreater(min(counts.values()), 50, counts)

    def test_rows_of_a_picture_are_alike(self):
        draw = random.Random(149)
        for _ in range(100):
            row, m = drawn_row(draw, "ab", 5), draw.randrange(3)
            found = first_row(picture(row, "ab", m))
            self.assertIs(alike(found, row, m), True)
            self.assertEqual(len(found[1]), len(row[1]))
            self.assertIs(lets(turned(picture(row, "ab", m)), found), False)

    def test_a_machine_cut_with_a_picture(self):
        draw = random.Random(150)
        counts = {True: 0, False: 0}
        for k in range(150):
            machine, row = some_machine(draw, k), drawn_row(draw, "ab", 4)
            m = max(2, greatest_by_words(machine))
            cut = both(machine, picture(row, "ab", m))
            let = lets(machine, row)
            counts[let] += 1
            self.assertIs(lets(cut, row), let)
            # all rows of the picture, or none of them
            self.assertIs(first_row(cut) is not None, let)
            self.assertIs(within(picture(row, "ab", m), machine) is None, let)
        self.assertGreater(min(counts.values()), 30, counts)

    def test_counts_of_pictures(self):
        # the rows of grain 1 are parted by what they look like
        rows = [(1, (("a", first), ("a", second))) for first in range(4) for second in range(first, 4)]
        met = []
        for row in rows:
            if not any(alike(row, other, 2) for other in met):
                met.append(row)
        self.assertEqual(sum(how_many(picture(row, "a", 2), 2, 3) for row in met), len(rows))

    def test_told_rows_and_pictures(self):
        draw = random.Random(151)
        for k in range(80):
            machine = some_machine(draw, k)
            told = [(row, lets(machine, row)) for row in (drawn_row(draw, machine[0], 4) for _ in range(5))]
            kind, found = fitting(told, max(2, greatest_by_words(machine)))
            # no two of them are alike, since the machine itself does as is told
            self.assertEqual(kind, "machine")
            self.assertEqual(left([machine, found], told), [0, 1])
            let = [row for row, truth in told if truth]
            for row in let:
                self.assertIsNone(within(picture(row, machine[0], 2), either(found, machine)))
                self.assertEqual(left([picture(row, machine[0], 2)], [(row, True)]), [0])
            pictures = [(row, True) for row in let]
            self.assertEqual(fitting(pictures, 2)[0], "machine")

    def test_rows_that_part_machines(self):
        draw = random.Random(152)
        met = 0
        for k in range(100):
            one = wide_machine(draw)
            other = changed_machine(draw, one)
            row = parted(one, other)
            if row is None:
                self.assertIsNone(next_row([one, other], []))
                continue
            met += 1
            asked, many = next_row([one, other], [])
            self.assertEqual((many, len(asked[1])), (1, len(row[1])))
            m = max(greatest_by_words(one), greatest_by_words(other))
            for found in (row, asked):
                self.assertNotEqual(lets(one, found), lets(other, found))
                # alike to none that both let, nor to one that none of both lets
                cut = both(picture(found, "ab", m), either(both(one, other), both(turned(one), turned(other))))
                self.assertIsNone(first_row(cut))
                for _ in range(5):
                    near = shifted(draw, found, 6)
                    if lets(one, near) == lets(other, near):
                        self.assertIs(alike(found, near, m), False)
        self.assertGreater(met, 30)

    def test_told_rows_leave_a_machine_that_fits(self):
        draw = random.Random(153)
        for _ in range(60):
            row, m = drawn_row(draw, "ab", 3), draw.randrange(3)
            others = [shifted(draw, row, 6) for _ in range(4)]
            told = [(row, True)] + [(other, False) for other in others]
            answer = fitting(told, m)
            forbidding = [k + 1 for k, other in enumerate(others) if alike(row, other, m)]
            if forbidding:
                self.assertEqual(answer, ("rows", 0, forbidding[0]))
            else:
                self.assertEqual(left([picture(row, "ab", m), answer[1]], told), [0, 1])


if __name__ == "__main__":
    unittest.main()
