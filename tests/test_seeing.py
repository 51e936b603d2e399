"""Point 17: alike, picture and fitting; and points 2 to 4 as far as they tell of these."""

import random
import unittest

from drawing import drawn_machine, drawn_row, finer, shifted, wide_machine
from samples import FINE, ROW, anything, filled, spoiled
from words import alike_by_words, fine_rows, greatest_by_words, lets_by_words

from sinceclocks.errors import NoBound, NoLetters, NoRow, NoTold
from sinceclocks.joining import is_single
from sinceclocks.machines import is_machine, lets
from sinceclocks.rows import is_row
from sinceclocks.seeing import alike, fitting, picture

EMPTY = (1, ())
GREAT = 10 ** 30 - 1
NO_LETTERS = ["", "ba", "aa", "A", "a b", "aB", "-", "a1", ("a", "b"), ["a", "b"], None, True, False, 0, 1]


def one(time, grain=1, letter="a"):
    """A row of one event."""
    return (grain, ((letter, time),))


class AlikeTest(unittest.TestCase):
    def test_example(self):
        row, other = (2, (("a", 1), ("a", 4))), (3, (("a", 1), ("a", 5)))
        self.assertEqual([alike(row, row, 2), alike(row, other, 2), alike(row, other, 1)], [True, False, True])

    def test_spots(self):
        # each group of times is alike for 2, in units and hundredths
        groups = [[0], [1, 50, 99], [100], [101, 150, 199], [200], [201, 250, 300, 301, 10000]]
        for k, group in enumerate(groups):
            for other_k, others in enumerate(groups):
                for time in group:
                    for other in others:
                        self.assertIs(alike(one(time, 100), one(other, 100), 2), k == other_k)
                        self.assertIs(alike((100, (("b", 0), ("b", time))), (100, (("b", 0), ("b", other))), 2),
                                      k == other_k)
        self.assertEqual([alike(one(200, 100), one(300, 100), m) for m in (0, 1, 2, 3)], [True, True, False, False])
        self.assertEqual([alike(one(0, 100), one(time, 100), 0) for time in (0, 1, 100)], [True, False, False])
        self.assertIs(alike(one(1, 100), one(900, 100), 0), True)

    def test_grains(self):
        self.assertIs(alike(one(1, 2), one(2, 4), 5), True)
        self.assertIs(alike(one(1, 2), one(1, 3), 5), True)
        self.assertIs(alike(one(3, 3), one(7, 7), 5), True)
        self.assertIs(alike((1, ()), (100, ()), 0), True)

    def test_letters(self):
        self.assertIs(alike(one(1), one(1, letter="b"), 3), False)
        self.assertIs(alike(one(1), EMPTY, 3), False)
        self.assertIs(alike(EMPTY, EMPTY, 3), True)
        self.assertIs(alike((1, (("a", 1), ("b", 1))), (1, (("b", 1), ("a", 1))), 3), False)
        self.assertIs(alike((1, (("a", 1), ("b", 1))), (1, (("a", 1), ("b", 1), ("b", 1))), 3), False)
        self.assertIs(alike((1, (("a", 1), ("b", 1))), (1, (("a", 1),)), 3), False)

    def test_since_each_letter(self):
        # the begin and the last a tell the same of both rows, the b does not
        row, other = (10, (("b", 1), ("a", 6), ("a", 12))), (10, (("b", 3), ("a", 6), ("a", 12)))
        self.assertEqual([alike(row, other, m) for m in (0, 1, 2)], [True, False, False])
        # only the last time of a letter counts
        row, other = (10, (("a", 1), ("a", 5), ("b", 12))), (10, (("a", 3), ("a", 5), ("b", 12)))
        self.assertIs(alike(row, other, 2), True)
        # the begin is more than a unit ago in one of them
        self.assertIs(alike((10, (("a", 10), ("a", 10))), (10, (("a", 11), ("a", 11))), 1), False)
        self.assertIs(alike((10, (("a", 10), ("a", 10))), (10, (("a", 11), ("a", 11))), 0), True)
        # the order of fractions shows only where some letter asks for it
        row, other = (10, (("a", 3), ("b", 8))), (10, (("a", 8), ("b", 9)))
        self.assertIs(alike(row, other, 5), True)
        self.assertIs(alike((10, row[1] + (("a", 18),)), (10, other[1] + (("a", 18),)), 5), False)

    def test_as_words_tell(self):
        draw = random.Random(131)
        counts = {True: 0, False: 0}
        for k in range(1500):
            row = drawn_row(draw, draw.choice(["a", "ab", "abc"]), 5, 3)
            other = [shifted(draw, row), shifted(draw, row, 20), drawn_row(draw, "ab", 3, 3)][k % 3]
            m = draw.randrange(4)
            told = alike(row, other, m)
            self.assertIs(told, alike_by_words(row, other, m), (row, other, m))
            self.assertIs(alike(other, row, m), told)
            counts[told] += 1
        self.assertGreater(min(counts.values()), 300, counts)

    def test_over_all_rows(self):
        """Alike is the same both ways, one row is alike to itself, and finer numbers tell more apart."""
        draw = random.Random(132)
        for _ in range(200):
            row = drawn_row(draw, "ab", 5)
            others = [shifted(draw, row, 10) for _ in range(4)]
            for m in (0, 1, 2, 3):
                self.assertIs(alike(row, finer(row, 7), m), True)
                for other in others:
                    if alike(row, other, m + 1):
                        self.assertIs(alike(row, other, m), True)
                    for third in others:
                        if alike(row, other, m) and alike(other, third, m):
                            self.assertIs(alike(row, third, m), True)

    def test_just_then_each_machine_lets_both_or_none(self):
        draw = random.Random(133)
        parted = 0
        for _ in range(300):
            row = drawn_row(draw, "ab", 4)
            other = shifted(draw, row, 10)
            for machine in [wide_machine(draw, "ab"), drawn_machine(draw)]:
                m = greatest_by_words(machine)
                if alike(row, other, m):
                    self.assertIs(lets(machine, row), lets(machine, other))
            if not alike(row, other, 2):
                parted += 1
                self.assertIs(lets(picture(row, "ab", 2), other), False)
        self.assertGreater(parted, 30)


class PictureTest(unittest.TestCase):
    def check_form(self, machine, letters, m):
        self.assertIs(is_machine(machine), True)
        self.assertIs(is_single(machine), True)
        self.assertEqual(machine[0], letters)
        self.assertLessEqual(greatest_by_words(machine), m)

    def test_example(self):
        row, other = (2, (("a", 1), ("a", 4))), (3, (("a", 1), ("a", 5)))
        self.assertIs(lets(picture(row, "a", 1), other), True)
        self.assertIs(lets(picture(row, "a", 2), other), False)

    def test_by_hand(self):
        machine = picture((2, (("a", 1), ("b", 4))), "ab", 1)
        for other, wanted in [((2, (("a", 1), ("b", 4))), True), ((10, (("a", 9), ("b", 21))), True),
                              ((10, (("a", 1), ("b", 12))), True), ((10, (("a", 9), ("b", 19))), False),
                              ((10, (("a", 0), ("b", 12))), False), ((10, (("a", 10), ("b", 22))), False),
                              ((10, (("a", 9), ("a", 21))), False), ((10, (("a", 9),)), False), (EMPTY, False),
                              ((10, (("a", 9), ("b", 21), ("b", 21))), False)]:
            self.assertIs(lets(machine, other), wanted, other)
        self.check_form(machine, "ab", 1)

    def test_rows_without_events(self):
        for m in (0, 3):
            for letters in ("a", "xyz"):
                machine = picture((7, ()), letters, m)
                self.check_form(machine, letters, m)
                self.assertEqual([lets(machine, EMPTY), lets(machine, one(0, 1, "x"))], [True, False])

    def test_more_letters(self):
        machine = picture(one(3, 2, "m"), "amz", 2)
        self.check_form(machine, "amz", 2)
        self.assertEqual([lets(machine, one(3, 2, "m")), lets(machine, one(3, 2, "a"))], [True, False])
        self.assertIs(lets(machine, (2, (("a", 3), ("m", 3)))), False)

    def test_bound_of_0(self):
        machine = picture((1, (("a", 0), ("a", 3))), "a", 0)
        self.check_form(machine, "a", 0)
        self.assertEqual([lets(machine, (10, (("a", first), ("a", second))))
                          for first, second in [(0, 1), (0, 90), (0, 0), (1, 2)]], [True, True, False, False])

    def test_lets_just_the_rows_that_are_alike(self):
        draw = random.Random(134)
        for k in range(150):
            letters = draw.choice(["a", "ab", "abc"])
            row, m = drawn_row(draw, letters, 4, 3), draw.randrange(4)
            machine = picture(row, letters, m)
            self.check_form(machine, letters, m)
            for other in [row, finer(row, 5), drawn_row(draw, letters, 4)] + [shifted(draw, row) for _ in range(6)]:
                self.assertIs(lets_by_words(machine, other), alike_by_words(row, other, m), (row, other, m))

    def test_over_fine_rows(self):
        for row in [(2, (("a", 1), ("b", 2))), (1, (("b", 0), ("b", 2))), (3, (("a", 4), ("a", 4))), one(1), EMPTY]:
            for m in (0, 1):
                machine = picture(row, "ab", m)
                for other in fine_rows("ab", 2, 2):
                    self.assertIs(lets(machine, other), alike_by_words(row, other, m))


class FittingTest(unittest.TestCase):
    def check(self, told, m):
        """The answer is of the kind that is due, and does what the words say."""
        wanted = None
        for i, (row, truth) in enumerate(told):
            against = [j for j, (other, let) in enumerate(told) if truth and not let and alike_by_words(row, other, m)]
            if against and wanted is None:
                wanted = ("rows", i, against[0])
        answer = fitting(told, m)
        self.assertIsInstance(answer, tuple)
        if wanted is not None:
            self.assertEqual(answer, wanted)
            return answer
        kind, machine = answer
        self.assertEqual(kind, "machine")
        self.assertIs(is_machine(machine), True)
        self.assertLessEqual(greatest_by_words(machine), m)
        for row, truth in told:
            self.assertIs(lets_by_words(machine, row), truth)
        return answer

    def test_example(self):
        row, other = (2, (("a", 1), ("a", 4))), (3, (("a", 1), ("a", 5)))
        self.assertEqual(fitting([(row, True), (other, False)], 2)[0], "machine")
        self.assertEqual(fitting([(other, False), (row, True)], 1), ("rows", 1, 0))

    def test_edges(self):
        self.assertEqual(self.check([], 0)[0], "machine")
        self.assertEqual(self.check((), 5)[0], "machine")
        self.assertEqual(self.check([(EMPTY, True)], 0)[0], "machine")
        self.assertEqual(self.check([(EMPTY, False)], 0)[0], "machine")
        self.assertEqual(self.check([(EMPTY, False), ((9, ()), False), (one(2), False)], 1)[0], "machine")
        self.assertEqual(self.check([(EMPTY, True), ((7, ()), False)], 3), ("rows", 0, 1))
        self.assertEqual(self.check([(ROW, True), (ROW, False)], 0), ("rows", 0, 1))
        self.assertEqual(self.check([(ROW, False), (ROW, True)], 9), ("rows", 1, 0))
        self.assertEqual(self.check([(ROW, True), (ROW, True), (FINE, False)], 1)[0], "machine")

    def test_the_least_rows(self):
        # for a bound of 1 rows 1, 3, 4, 6 are alike, and so are 0, 2 and 5
        early, late = one(1, 2), one(5, 2)
        told = [(early, True), (late, False), (one(1, 3), True), (one(7, 3), True), (one(9), True), (one(2, 3), False),
                (one(3), False)]
        self.assertEqual(self.check(told, 1), ("rows", 0, 5))
        self.assertEqual(self.check(told[1:], 1), ("rows", 1, 4))
        self.assertEqual(self.check(told[3:] + told[:2], 1), ("rows", 0, 3))
        self.assertEqual(self.check(told[1:2] + told[3:5], 1), ("rows", 1, 0))
        self.assertEqual(self.check([(late, False), (late, False), (late, True)], 1), ("rows", 2, 0))

    def test_bounds(self):
        told = [(one(3, 2), True), (one(5, 2), False)]
        self.assertEqual([self.check(told, m)[0] for m in (0, 1, 2, 3)], ["rows", "rows", "machine", "machine"])

    def test_letters(self):
        kind, machine = self.check([(one(0, 1, "z"), True), (one(0, 1, "b"), True), (one(0, 1, "q"), False)], 0)
        self.assertTrue(set("bz") <= set(machine[0]))
        self.assertEqual(self.check([(one(0, 1, "q"), False)], 0)[0], "machine")

    def test_beginnings(self):
        """A beginning of a row that is let need not be let, and the other way about."""
        long = (2, (("a", 1), ("b", 2), ("a", 5)))
        for truths in [(True, False, True, False), (False, True, False, True), (True, True, False, False)]:
            told = [((2, long[1][:count]), truth) for count, truth in enumerate(truths)]
            self.assertEqual(self.check(told, 2)[0], "machine")

    def test_drawn_rows(self):
        draw = random.Random(135)
        counts = {"machine": 0, "rows": 0}
        for k in range(400):
            rows = [drawn_row(draw, draw.choice(["a", "ab"]), 3, 2) for _ in range(draw.randrange(1, 4))]
            rows += [shifted(draw, draw.choice(rows), 6) for _ in range(draw.randrange(4))]
            told = [(row, draw.random() < 0.5) for row in draw.sample(rows, len(rows))]
            told = tuple(told) if k % 2 else told
            counts[self.check(told, draw.randrange(4))[0]] += 1
        self.assertGreater(min(counts.values()), 80, counts)


class ErrorsTest(unittest.TestCase):
    def test_no_row(self):
        for thing in anything() + spoiled(ROW) + [thing for thing in filled(ROW) if not is_row(thing)]:
            for bad in (None, 2):
                with self.assertRaises(NoRow):
                    alike(thing, ROW, bad)
                with self.assertRaises(NoRow):
                    alike(ROW, thing, bad)
                with self.assertRaises(NoRow):
                    alike(thing, None, bad)
                with self.assertRaises(NoRow):
                    picture(thing, "ab", bad)
                with self.assertRaises(NoRow):
                    picture(thing, None, bad)

    def test_no_letters(self):
        for thing in anything() + NO_LETTERS:
            for m in (None, 2):
                with self.assertRaises(NoLetters):
                    picture(EMPTY, thing, m)
                with self.assertRaises(NoLetters):
                    picture(ROW, thing, m)
        # letters that lack one of the row
        for letters in ("a", "b", "ac", "xyz", "bcdefghijklmnopqrstuvwxyz"):
            for m in (None, 2):
                with self.assertRaises(NoLetters):
                    picture(ROW, letters, m)

    def test_no_bound(self):
        for thing in anything() + [-1, True, False, "1", (1,), [1]]:
            with self.assertRaises(NoBound):
                alike(ROW, FINE, thing)
            with self.assertRaises(NoBound):
                picture(ROW, "ab", thing)
            with self.assertRaises(NoBound):
                fitting([(ROW, True)], thing)
            with self.assertRaises(NoBound):
                fitting([(ROW, True), (ROW, False)], thing)

    def test_no_told(self):
        wrong = anything() + [(ROW,), (ROW, True, True), [ROW, True], (True, ROW), (ROW, 1), (ROW, 0), (ROW, None), ROW]
        for thing in wrong + [(row, False) for row in spoiled(ROW)]:
            for told in [[thing], (thing,), [(ROW, True), thing]]:
                for m in (None, 2):
                    with self.assertRaises(NoTold):
                        fitting(told, m)
        for thing in anything():
            if thing not in ([], ()):
                with self.assertRaises(NoTold):
                    fitting(thing, None)

    def test_right_arguments_raise_nothing(self):
        for m in (0, 1, 20, GREAT):
            for row in [ROW, FINE, EMPTY, one(GREAT, GREAT)]:
                self.assertIs(alike(row, row, m), True)
                self.assertIs(is_machine(picture(row, "abc", m)), True)
                self.assertEqual(fitting([(row, True)], m)[0], "machine")
                self.assertEqual(fitting([(row, True), (row, False)], m), ("rows", 0, 1))


class OwnershipTest(unittest.TestCase):
    def test_arguments_are_as_before_and_results_equal(self):
        told = [(ROW, True), (FINE, False)]
        before = repr(told)
        first = [alike(ROW, FINE, 2), picture(ROW, "ab", 2), fitting(told, 2)]
        self.assertEqual(repr(first), repr([alike(ROW, FINE, 2), picture(ROW, "ab", 2), fitting(told, 2)]))
        self.assertEqual(repr(told), before)
        kept = repr(first)
        told.clear()
        self.assertEqual(repr(first), kept)

    def test_by_names(self):
        self.assertIs(alike(m=2, other=ROW, row=ROW), True)
        self.assertEqual(picture(m=1, letters="ab", row=ROW), picture(ROW, "ab", 1))
        self.assertEqual(fitting(m=1, told=[]), fitting([], 1))


if __name__ == "__main__":
    unittest.main()
