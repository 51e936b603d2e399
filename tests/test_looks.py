"""Point 8, and points 2 to 4 as far as they tell of looks."""

import random
import unittest
from fractions import Fraction
from itertools import product

from samples import LOOK, ROW, anything, filled, shortened, spoiled
from words import agos_by_words, all_agos, look_by_words, looks_by_words

from sinceclocks.errors import NoBound, NoLetter, NoLetters, NoLook, NoRow
from sinceclocks.looks import came, later, look

NO_LETTERS = ["", "ba", "aa", "abb", "A", "aB", "a b", "a-", "a\n", "\n", "`", "{", None, True, False, 0, 1, -1,
              10 ** 29, [], (), ["a"], ("a",), ["a", "b"], ("a", "b"), [[]]]
NO_BOUNDS = [-1, -(10 ** 29), None, True, False, "", "0", "1", [], (), [0], (0,), (1, 0), [[]]]


def answer(call, *arguments):
    """What the call returns, or None where it raises NoLook."""
    try:
        return call(*arguments)
    except NoLook:
        return None


def entries(most, greatest):
    return [None] + list(product(range(most + 1), range(greatest + 1)))


class LookTest(unittest.TestCase):
    def test_example(self):
        here = look((10, (("a", 3), ("b", 8), ("a", 21))), "abc", 2)
        self.assertEqual(here, ((3, 0), (0, 0), (1, 1), None))

    def test_row_without_events(self):
        self.assertEqual(look((3, ()), "ab", 0), ((0, 0), None, None))
        self.assertEqual(look((3, ()), "z", 4), ((0, 0), None))

    def test_by_hand(self):
        # at 25 tenths: the begin 2.5 units ago, a 1.5, b 0.9, c 0
        row = (10, (("a", 10), ("b", 16), ("c", 25)))
        self.assertEqual(look(row, "abc", 4), ((2, 1), (1, 1), (0, 2), (0, 0)))
        self.assertEqual(look(row, "abc", 2), ((3, 0), (1, 1), (0, 2), (0, 0)))
        # entries of more than m units do not count for the numbers of the fractions
        self.assertEqual(look(row, "abc", 1), ((2, 0), (2, 0), (0, 1), (0, 0)))
        self.assertEqual(look(row, "abc", 0), ((1, 0), (1, 0), (1, 0), (0, 0)))
        self.assertEqual(look(row, "bc", 2), ((3, 0), (0, 1), (0, 0)))

    def test_equal_and_unlike_fractions(self):
        row = (10, (("a", 13), ("b", 23), ("c", 26), ("d", 30)))
        self.assertEqual(look(row, "abcd", 4), ((3, 0), (1, 2), (0, 2), (0, 1), (0, 0)))

    def test_just_m_units_ago_and_more(self):
        self.assertEqual(look((10, (("a", 0), ("b", 20))), "ab", 2), ((2, 0), (2, 0), (0, 0)))
        self.assertEqual(look((10, (("a", 0), ("b", 21))), "ab", 2), ((3, 0), (3, 0), (0, 0)))
        self.assertEqual(look((10, (("a", 0), ("b", 19))), "ab", 2), ((1, 1), (1, 1), (0, 0)))

    def test_bound_of_nothing(self):
        self.assertEqual(look((2, (("a", 0), ("b", 0))), "abc", 0), ((0, 0), (0, 0), (0, 0), None))
        self.assertEqual(look((2, (("a", 0), ("b", 1))), "abc", 0), ((1, 0), (1, 0), (0, 0), None))

    def test_events_at_the_same_time(self):
        self.assertEqual(look((2, (("a", 3), ("b", 3))), "ab", 2), ((1, 1), (0, 0), (0, 0)))

    def test_other_letters_count_for_times_alone(self):
        self.assertEqual(look((2, (("a", 1), ("z", 4))), "ab", 2), ((2, 0), (1, 1), None))
        self.assertEqual(look((2, (("y", 1), ("z", 4))), "a", 2), ((2, 0), None))
        # the fraction of a letter that is not asked for is not counted
        self.assertEqual(look((9, (("y", 8), ("a", 10), ("z", 12))), "a", 2), ((1, 2), (0, 1)))

    def test_great_bound(self):
        m = 10 ** 29
        self.assertEqual(look((2, (("a", 2 * m),)), "a", m), ((m, 0), (0, 0)))
        self.assertEqual(look((2, (("a", 2 * m + 1),)), "a", m), ((m + 1, 0), (0, 0)))

    def test_as_the_words_tell(self):
        draw = random.Random(3)
        for _ in range(1500):
            grain, time, events = draw.randrange(1, 8), 0, []
            for _ in range(draw.randrange(7)):
                time += draw.randrange(grain + 3)
                events.append((draw.choice("abcdz"), time))
            row, letters, m = (grain, tuple(events)), draw.choice(["a", "ab", "acd", "abcd"]), draw.randrange(5)
            self.assertEqual(look(row, letters, m), look_by_words(agos_by_words(row, letters), m), (row, letters, m))


class LaterTest(unittest.TestCase):
    def test_example(self):
        self.assertEqual(later(((0, 0), None), 1), [((0, 0), None), ((0, 1), None), ((1, 0), None), ((2, 0), None)])

    def test_two_fractions(self):
        self.assertEqual(later(((1, 2), (0, 1)), 2), [
            ((1, 2), (0, 1)), ((2, 0), (0, 1)), ((3, 0), (0, 1)), ((3, 0), (1, 0)), ((3, 0), (1, 1)),
            ((3, 0), (2, 0)), ((3, 0), (3, 0))])

    def test_new_fractions_are_least(self):
        self.assertEqual(later(((0, 1), (0, 0)), 1)[:4], [
            ((0, 1), (0, 0)), ((0, 2), (0, 1)), ((1, 0), (0, 1)), ((2, 0), (0, 1))])
        self.assertEqual(later(((2, 0), (1, 1), (1, 0), (0, 1)), 2)[:3], [
            ((2, 0), (1, 1), (1, 0), (0, 1)), ((3, 0), (1, 2), (1, 1), (0, 2)), ((3, 0), (2, 0), (1, 1), (1, 0))])

    def test_equal_fractions_go_together(self):
        self.assertEqual(later(((1, 1), (0, 1)), 2)[:3], [((1, 1), (0, 1)), ((2, 0), (1, 0)), ((3, 0), (1, 1))])

    def test_bound_of_nothing(self):
        self.assertEqual(later(((0, 0), (0, 0)), 0), [((0, 0), (0, 0)), ((1, 0), (1, 0))])
        self.assertEqual(later(((1, 0), (0, 0), None), 0), [((1, 0), (0, 0), None), ((1, 0), (1, 0), None)])

    def test_last_look_stays(self):
        self.assertEqual(later(((3, 0), None, (3, 0)), 2), [((3, 0), None, (3, 0))])
        self.assertEqual(later(((1, 0), None), 0), [((1, 0), None)])

    def test_as_the_words_tell_and_nothing_else_is_a_look(self):
        for m, size in [(0, 2), (1, 2), (2, 2), (3, 2), (0, 3), (1, 3), (2, 3)]:
            wanted = {}
            for agos in all_agos(size, m):
                here = look_by_words(agos, m)
                if here not in wanted:
                    wanted[here] = looks_by_words(agos, m)
            for thing in product(entries(m + 2, size), repeat=size):
                self.assertEqual(answer(later, thing, m), wanted.get(thing), (thing, m))

    def test_each_look_of_a_row_is_one(self):
        row = (7, (("a", 3), ("b", 8), ("c", 12), ("a", 13), ("z", 18)))
        for count in range(6):
            for m in range(5):
                here = look((7, row[1][:count]), "abc", m)
                agos = agos_by_words((7, row[1][:count]), "abc")
                self.assertEqual(later(here, m), looks_by_words(agos, m))

    def test_whole_parts_above_the_bound(self):
        for thing in [((3, 0), None), ((2, 1), None), ((1, 1), (1, 0)), ((2, 0), (1, 1)), ((2, 0), (2, 1))]:
            self.assertIsNone(answer(later, thing, 1), thing)
        for thing in [((2, 0), None), ((1, 0), (0, 1)), ((2, 0), (2, 0))]:
            self.assertIsNotNone(answer(later, thing, 1), thing)

    def test_begin_is_longest_ago(self):
        for thing in [(None, None), (None, (0, 0)), ((0, 0), (1, 0)), ((0, 1), (0, 2)), ((1, 0), (2, 0)),
                      ((0, 0), None, (0, 1))]:
            self.assertIsNone(answer(later, thing, 1), thing)

    def test_numbers_of_fractions_without_a_gap(self):
        for thing in [((0, 2), None), ((0, 3), (0, 1)), ((1, 0), (0, 2)), ((2, 0), (0, 3), (0, 1)),
                      ((0, 10 ** 29), None)]:
            self.assertIsNone(answer(later, thing, 1), thing)

    def test_sizes_of_looks(self):
        for size in [0, 1, 28, 60]:
            self.assertIsNone(answer(later, ((0, 0),) * size, 1), size)
        for size in [2, 27]:
            self.assertEqual(len(later(((0, 0),) * size, 1)), 4)

    def test_no_bound(self):
        for m in NO_BOUNDS:
            with self.subTest(m):
                with self.assertRaises(NoBound):
                    later(((0, 0), None), m)
                with self.assertRaises(NoBound):
                    look(ROW, "ab", m)

    def test_no_look(self):
        for thing in anything() + spoiled(LOOK) + [0, 1, "a", "ab"]:
            with self.assertRaises(NoLook):
                later(thing, 2)
        for thing in shortened(LOOK, [(0,), (1,), (3,)]):
            with self.assertRaises(NoLook):
                later(thing, 2)

    def test_anything_at_each_place(self):
        for thing in filled(LOOK):
            told = answer(later, thing, 2)
            self.assertEqual(told is not None, answer(came, thing, "abcd", "a") is not None)
            self.assertIn(told and told[0], [None, thing])

    def test_no_look_for_a_great_bound(self):
        for thing in [((0, 2), None), None, [(0, 0), None], ((10 ** 29 + 2, 0), None), ((10 ** 29, 1), None)]:
            with self.assertRaises(NoLook):
                later(thing, 10 ** 29)

    def test_bound_is_asked_for_ahead_of_the_look(self):
        with self.assertRaises(NoBound):
            later(None, None)
        with self.assertRaises(NoBound):
            later(((5, 5),), -1)


class CameTest(unittest.TestCase):
    def test_examples(self):
        self.assertEqual(came(((3, 0), (0, 0), (1, 1), None), "abc", "b"), ((3, 0), (0, 0), (0, 0), None))
        self.assertEqual(came(((1, 2), (0, 1), (0, 2)), "ab", "a"), ((1, 1), (0, 0), (0, 1)))

    def test_first_time(self):
        self.assertEqual(came(((0, 1), None), "z", "z"), ((0, 1), (0, 0)))
        self.assertEqual(came(((2, 0), None, None), "bd", "d"), ((2, 0), None, (0, 0)))

    def test_fraction_that_stays(self):
        self.assertEqual(came(((1, 1), (0, 1)), "a", "a"), ((1, 1), (0, 0)))
        self.assertEqual(came(((1, 2), (0, 2), (0, 1)), "ab", "a"), ((1, 2), (0, 0), (0, 1)))

    def test_whole_parts_have_no_bound(self):
        far = 10 ** 29
        self.assertEqual(came(((far, 2), (7, 1), (6, 0)), "ab", "a"), ((far, 1), (0, 0), (6, 0)))

    def test_as_the_words_tell_and_nothing_else_is_a_look(self):
        for size in [2, 3]:
            letters = "ab"[:size - 1]
            wanted = {}
            for m in range(4):
                for agos in all_agos(size, m):
                    here = look_by_words(agos, m)
                    if here in wanted or any(entry is not None and entry[0] > 2 for entry in here):
                        continue
                    new = [agos[:k + 1] + (Fraction(0),) + agos[k + 2:] for k in range(size - 1)]
                    wanted[here] = [look_by_words(each, m) for each in new]
            for thing in product(entries(2, size), repeat=size):
                for k, a in enumerate(letters):
                    told = wanted[thing][k] if thing in wanted else None
                    self.assertEqual(answer(came, thing, letters, a), told, (thing, a))

    def test_as_a_row_with_the_letter(self):
        events = (("b", 3), ("a", 8), ("c", 12), ("z", 13))
        for m in range(5):
            for a in "abc":
                here = look((5, events), "abc", m)
                self.assertEqual(came(here, "abc", a), look((5, events + ((a, 13),)), "abc", m))

    def test_no_letters(self):
        for letters in NO_LETTERS:
            with self.subTest(letters):
                with self.assertRaises(NoLetters):
                    came(((0, 0), None), letters, "a")
                with self.assertRaises(NoLetters):
                    look(ROW, letters, 2)

    def test_no_look(self):
        for thing in anything() + spoiled(LOOK) + [0, 1, "a", "ab"]:
            with self.assertRaises(NoLook):
                came(thing, "abcd", "a")
        for thing in shortened(LOOK, [(0,), (1,), (3,)]):
            with self.assertRaises(NoLook):
                came(thing, "abcd", "a")

    def test_as_many_entries_as_letters(self):
        for size in [0, 1, 2, 4, 5, 27, 28]:
            with self.assertRaises(NoLook):
                came(((0, 0),) * size, "ab", "a")
        self.assertEqual(came(((0, 0),) * 3, "ab", "a"), ((0, 0),) * 3)

    def test_no_look_for_any_bound(self):
        for thing in [((0, 2), None), ((0, 0), (0, 1)), ((1, 0), (2, 0)), (None, (0, 0)), ((3, 10 ** 29), None)]:
            with self.assertRaises(NoLook):
                came(thing, "a", "a")

    def test_no_letter(self):
        for a in ["c", "", "ab", "A", "-", "\n", None, True, False, 0, 1, -1, [], (), ["a"], ("a",)]:
            with self.subTest(a), self.assertRaises(NoLetter):
                came(((1, 0), (0, 0), None), "ab", a)

    def test_order_of_errors(self):
        with self.assertRaises(NoLetters):
            came(None, None, None)
        with self.assertRaises(NoLetters):
            came(((0, 0),), "ba", "z")
        with self.assertRaises(NoLook):
            came(((0, 0),), "ab", "z")
        with self.assertRaises(NoLook):
            came(None, "ab", None)


class LookErrorsTest(unittest.TestCase):
    def test_no_row(self):
        for thing in anything() + spoiled(ROW):
            with self.assertRaises(NoRow):
                look(thing, "ab", 2)

    def test_earliest_argument_tells_the_error(self):
        with self.assertRaises(NoRow):
            look(None, None, None)
        with self.assertRaises(NoRow):
            look((0, ()), "a", -1)
        with self.assertRaises(NoLetters):
            look(ROW, "", True)
        with self.assertRaises(NoBound):
            look(ROW, "a", True)


class OwnershipTest(unittest.TestCase):
    def test_returned_list_belongs_to_the_caller(self):
        for thing in [((0, 0), None), ((2, 0), (2, 0))]:
            first = later(thing, 1)
            told = list(first)
            first[0] = 0
            first.append(None)
            self.assertEqual(later(thing, 1), told)
            self.assertIsNot(later(thing, 1), later(thing, 1))

    def test_arguments_are_as_before(self):
        told = repr((ROW, LOOK))
        for _ in range(2):
            self.assertEqual(repr(look(ROW, "ab", 2)), repr(look(ROW, "ab", 2)))
            self.assertEqual(repr(later(LOOK, 2)), repr(later(LOOK, 2)))
            self.assertEqual(repr(came(LOOK, "abcd", "b")), repr(came(LOOK, "abcd", "b")))
        self.assertEqual(repr((ROW, LOOK)), told)
        wrong = [[0, 0], None]
        with self.assertRaises(NoLook):
            later(wrong, 2)
        with self.assertRaises(NoLook):
            came(wrong, "a", "a")
        self.assertEqual(wrong, [[0, 0], None])

    def test_no_true_or_false_in_what_is_told(self):
        told = repr([look(ROW, "ab", 2), later(LOOK, 2), came(LOOK, "abcd", "b")])
        self.assertNotIn("True", told)
        self.assertNotIn("False", told)

    def test_by_names(self):
        self.assertEqual(look(m=2, letters="a", row=(1, ())), ((0, 0), None))
        self.assertEqual(later(m=0, look=((1, 0), None)), [((1, 0), None)])
        self.assertEqual(came(a="a", letters="a", look=((1, 0), None)), ((1, 0), (0, 0)))


if __name__ == "__main__":
    unittest.main()
