"""Point 5, and points 2 to 4 and 7 as far as they tell of rows."""

import unittest

from samples import FINE, ROW, anything, filled, shortened, spoiled, with_part
from words import since_by_words

from sinceclocks.errors import NoLetter, NoNumber, NoRow
from sinceclocks.rows import is_row, since


class IsRowTest(unittest.TestCase):
    def test_rows(self):
        for row in [ROW, FINE, (1, ()), (7, ()), (1, (("z", 0),)), (2, (("a", 3), ("b", 3), ("a", 3), ("a", 4))),
                    (10 ** 29, (("q", 10 ** 29), ("q", 10 ** 29)))]:
            with self.subTest(row):
                self.assertIs(is_row(row), True)

    def test_times_that_fall(self):
        self.assertIs(is_row((1, (("a", 2), ("a", 1)))), False)
        self.assertIs(is_row((1, (("a", 0), ("b", 5), ("a", 5), ("b", 4)))), False)
        self.assertIs(is_row((1, (("a", 1), ("b", 0), ("a", 5)))), False)

    def test_numbers_out_of_reach(self):
        for thing in [(0, ()), (-1, ()), (1, (("a", -1),)), (1, (("a", 0), ("a", -1)))]:
            self.assertIs(is_row(thing), False)

    def test_letters_that_are_none(self):
        for letter in ["", "A", "aa", "-", "`", "{", " a", "1", "\n", None, 0, ("a",)]:
            with self.subTest(letter):
                self.assertIs(is_row((1, ((letter, 0),))), False)

    def test_anything(self):
        for thing in anything() + [0, 1, 10 ** 29, "a", "ab"]:
            self.assertIs(is_row(thing), False)
            self.assertIs(is_row((1, thing)), thing == () and isinstance(thing, tuple))
            self.assertIs(is_row((1, (thing,))), False)
            self.assertIs(is_row((1, ((thing, 0),))), isinstance(thing, str) and thing == "a")

    def test_kinds_at_each_place(self):
        for row in [ROW, FINE]:
            for thing in spoiled(row) + shortened(row, [(), (1, 0), (1, 1), (1, 2)]):
                with self.subTest(thing):
                    self.assertIs(is_row(thing), False)

    def test_anything_at_each_place(self):
        for thing in filled(ROW):
            self.assertIs(is_row(thing), thing == (10, ()) and isinstance(thing[1], tuple))

    def test_true_and_false_are_no_numbers(self):
        self.assertIs(is_row((True, ())), False)
        self.assertIs(is_row((1, (("a", False), ("a", 1)))), False)
        self.assertIs(is_row((1, (("a", 0), ("a", True)))), False)

    def test_lists_are_no_tuples(self):
        for thing in [[1, ()], (1, []), (1, (["a", 0],)), (1, [("a", 0)])]:
            self.assertIs(is_row(thing), False)

    def test_by_name(self):
        self.assertIs(is_row(thing=ROW), True)


class SinceTest(unittest.TestCase):
    def test_example(self):
        self.assertEqual([since(ROW, 2, x) for x in ["a", "b", ""]], [19, None, 34])

    def test_by_hand(self):
        self.assertEqual([since(ROW, 0, x) for x in ["a", "b", ""]], [None, None, 0])
        self.assertEqual([since(ROW, 1, x) for x in ["a", "b", ""]], [15, None, 15])
        # the last two events come at the same time, so the last b came 0 ticks ago
        self.assertEqual([since(FINE, 2, x) for x in ["a", "b", ""]], [1, 0, 1])
        self.assertEqual([since(FINE, 1, x) for x in ["a", "b", ""]], [1, None, 1])

    def test_letter_that_the_row_does_not_have(self):
        self.assertIsNone(since(ROW, 2, "z"))

    def test_as_the_words_tell(self):
        row = (3, tuple(("abca"[k % 4], k * k // 3) for k in range(20)))
        for i in range(20):
            for x in ["", "a", "b", "c", "d"]:
                units = since_by_words(row, i, x)
                self.assertEqual(since(row, i, x), None if units is None else units * 3)

    def test_no_row(self):
        for thing in anything() + spoiled(ROW):
            with self.assertRaises(NoRow):
                since(thing, 0, "a")

    def test_no_number(self):
        for i in [3, -1, -3, 10 ** 29, True, False, None, "0", "", "a", [], [0], (), (0,), (1, 0)]:
            with self.subTest(i), self.assertRaises(NoNumber):
                since(ROW, i, "a")
        with self.assertRaises(NoNumber):
            since((1, ()), 0, "")

    def test_no_letter(self):
        for x in ["A", "ab", "-", " ", "\n", "a\n", None, True, False, 0, 1, -1, [], (), ["a"], ("a",), [""]]:
            with self.subTest(x), self.assertRaises(NoLetter):
                since(ROW, 1, x)

    def test_earliest_argument_tells_the_error(self):
        with self.assertRaises(NoRow):
            since(None, None, None)
        with self.assertRaises(NoRow):
            since((0, ()), 0, "a")
        with self.assertRaises(NoRow):
            since([1, ()], -1, "")
        with self.assertRaises(NoNumber):
            since(ROW, 3, "A")
        with self.assertRaises(NoNumber):
            since((1, ()), 0, None)

    def test_changes_nothing_and_tells_the_same_again(self):
        row = with_part(ROW, (0,), 11)
        told = repr(row)
        self.assertEqual([since(row, 2, "a") for _ in range(3)], [19, 19, 19])
        wrong = [1, [["a", 0]]]
        with self.assertRaises(NoRow):
            since(wrong, 0, "a")
        self.assertEqual((repr(row), wrong), (told, [1, [["a", 0]]]))

    def test_by_names(self):
        self.assertEqual(since(x="a", i=2, row=ROW), 19)


if __name__ == "__main__":
    unittest.main()
