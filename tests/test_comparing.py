"""Point 9: first_row, within and parted; and points 2 to 4 as far as they tell of these."""

import random
import unittest

from drawing import changed_machine, cycle, drawn_limit, drawn_machine, register, wide_machine
from samples import SOON, WIDE, anything, filled, spoiled
from words import Slow, fine_rows, greatest_by_words, lets_by_words, letters_by_words

from sinceclocks.comparing import first_row, parted, within
from sinceclocks.errors import NoMachine
from sinceclocks.machines import is_machine
from sinceclocks.rows import is_row

LATE = ("ab", 2, (0,), (1,), ((0, "a", (), 0), (0, "b", (("a", (0, False), (2, False)),), 1)))
ALL = ("ab", 1, (0,), (0,), ((0, "a", (), 0), (0, "b", (), 0)))
NONE = ("ab", 1, (), (), ())
# no event
EMPTY = (1, ())


def chain(word, *limits):
    """A machine that lets just the word, with these limits at its letters."""
    letters = "".join(sorted(set(word)))
    steps = tuple((k, a, limits[k], k + 1) for k, a in enumerate(word))
    return (letters, len(word) + 1, (0,), (len(word),), steps)


def since(x, least, most=None):
    """A limit written as a text: "2" is at least, or at most 2, "2!" more, or less than 2."""
    edges = [None if text is None else (int(text[0]), text.endswith("!")) for text in (least, most)]
    return (x, edges[0], edges[1])


class RowsTest(unittest.TestCase):
    """What is asked of each row that is told."""

    def check_row(self, row, let, unlet, *machines):
        """Row is let by all of let and by none of unlet, and has the form that point 9 tells of these machines."""
        self.assertIs(is_row(row), True)
        for machine in let:
            self.assertTrue(lets_by_words(machine, row), (row, machine))
        for machine in unlet:
            self.assertFalse(lets_by_words(machine, row), (row, machine))
        grain, events = row
        self.assertLessEqual(grain, len(events) + 1)
        times = [0] + [time for _, time in events]
        most = greatest_by_words(*machines) * grain + 1
        self.assertTrue(all(times[k + 1] - times[k] <= most for k in range(len(events))), row)

    def check_first(self, machine, count):
        row = first_row(machine)
        if count is None:
            self.assertIsNone(row, machine)
        else:
            self.check_row(row, [machine], [], machine)
            self.assertEqual(len(row[1]), count, (machine, row))

    def check_within(self, one, other, count):
        row = within(one, other)
        if count is None:
            self.assertIsNone(row, (one, other))
        else:
            self.check_row(row, [one], [other], one, other)
            self.assertEqual(len(row[1]), count, (one, other, row))

    def check_parted(self, one, other, count):
        row = parted(one, other)
        if count is None:
            self.assertIsNone(row, (one, other))
        else:
            let = [one] if lets_by_words(one, row) else [other]
            self.check_row(row, let, [other] if let == [one] else [one], one, other)
            self.assertEqual(len(row[1]), count, (one, other, row))


class FirstRowTest(RowsTest):
    def test_by_hand(self):
        self.check_first(SOON, 1 + 1)
        self.assertEqual([a for a, _ in first_row(SOON)[1]], ["a", "b"])
        self.check_first(ALL, 0)
        self.check_first(WIDE, 0)
        self.check_first(chain("aba", (), (), ()), 3)
        self.check_first(cycle(4, (3,)), 3)
        # without limits there is nothing to wait for
        self.assertEqual(first_row(cycle(3, (2,)))[1][1][1], 0)

    def test_row_without_events(self):
        for machine in [ALL, ("c", 1, (0,), (0,), ()), ("a", 2, (0, 1), (1,), ())]:
            self.assertEqual(first_row(machine), EMPTY)

    def test_no_starts_ends_or_steps(self):
        for machine in [NONE, ("ab", 1, (), (0,), ALL[4]), ("ab", 1, (0,), (), ALL[4]), ("ab", 2, (0,), (1,), ()),
                        ("ab", 2, (0,), (1,), ((1, "a", (), 0), (0, "a", (), 0)))]:
            self.assertIsNone(first_row(machine), machine)

    def test_limits_that_never_hold(self):
        for limit in [since("a", "2", "1"), since("a", "1!", "1"), since("a", "1", "1!"), since("a", "0", "0!"),
                      since("", "2", "1"), since("", "0", "0!")]:
            self.check_first(chain("aa", (), (limit,)), None)
        self.check_first(chain("a", (since("a", "0"),)), None)
        self.check_first(chain("aa", (), (("a", None, None),)), None)
        self.check_first(chain("ab", (), (("b", None, None),)), 2)

    def test_limits_of_which_none_holds_together(self):
        self.check_first(chain("aa", (), (since("a", "1"), since("a", "0", "1!"))), None)
        self.check_first(chain("aa", (), (since("a", "1"), since("a", "0", "1"))), 2)
        # the begin cannot be nearer than the a
        self.check_first(chain("ab", (), (since("a", "1"), since("", "0", "1!"))), None)
        self.check_first(chain("ab", (), (since("a", "1!"), since("", "0", "1"))), None)
        self.check_first(chain("ab", (), (since("a", "1"), since("", "0", "1"))), 2)

    def test_times_that_one_limit_forces(self):
        self.assertEqual(first_row(chain("a", (since("", "2", "2"),))), (1, (("a", 2),)))
        self.assertEqual(first_row(chain("a", (since("", "1!", "2!"),))), (2, (("a", 3),)))
        self.assertEqual(first_row(chain("a", (since("", "2!"),))), (2, (("a", 5),)))
        self.assertEqual(first_row(chain("ab", (since("", "0!", "1!"),), (since("a", "1", "1"),)))[1][0][0], "a")

    def test_unlike_fractions(self):
        # three events within the first unit, one behind the other, each at a time of its own
        between = since("", "0!", "1!")
        machine = chain("abc", (between,), (between, since("a", "0!")), (between, since("b", "0!")))
        self.check_first(machine, 3)
        self.assertEqual(first_row(machine), (4, (("a", 1), ("b", 2), ("c", 3))))

    def test_order_of_fractions_is_kept_over_units(self):
        # b comes nearer to a whole unit than a, so that c, just a unit behind b, is more than one behind a
        between = since("", "0!", "1!")
        one = chain("abc", (between,), (between, since("a", "0!")), (since("b", "1", "1"), since("a", "0", "1")))
        self.check_first(one, None)
        two = chain("abc", (between,), (between, since("a", "0!")), (since("b", "1", "1"), since("a", "1!", "2!")))
        self.check_first(two, 3)

    def test_long_waits(self):
        machine = chain("aaa", *[(since("", "2!"), limit) for limit in
                                 [("a", None, None), since("a", "2!"), since("a", "2!")]])
        self.check_first(machine, 3)
        machine = chain("abab", (), (since("a", "2!"),), (since("a", "2!"), since("b", "0!", "1!")), (since("b", "2"),))
        self.check_first(machine, 4)

    def test_times_that_later_letters_force(self):
        # the a comes as late as the b needs it
        self.assertEqual(first_row(chain("ab", (since("", "1!", "2!"),), (since("", "2!"), since("a", "0", "1!")))),
                         (3, (("a", 5), ("b", 7))))
        self.assertEqual(first_row(chain("ab", (since("", "0!", "1!"),), (since("", "1!"), since("a", "0", "1!")))),
                         (3, (("a", 2), ("b", 4))))
        late = chain("abc", (since("", "0!", "1!"),), (since("", "1!", "2!"), since("a", "0!", "1!")),
                     (since("", "2!"), since("b", "0", "1!")))
        self.assertEqual(first_row(late), (4, (("a", 3), ("b", 6), ("c", 9))))
        for count in range(2, 7):
            # each letter within a unit of the one ahead, but the last one behind so many units
            word = "ab" * count
            limits = [(since("ba"[k % 2], "0!", "1!"),) if k else (since("", "0!", "1!"),) for k in range(2 * count)]
            limits[-1] += (since("", str(count + 1) + "!"),)
            self.check_first(chain(word, *limits), 2 * count)

    def test_chains(self):
        draw = random.Random(10)
        counts = []
        for _ in range(120):
            word = draw.choice(["aa", "ab", "aba", "abb", "aab", "abab"])
            machine = chain(word, *[tuple(drawn_limit(draw, word[:k]) for _ in range(draw.choice([0, 1, 1, 2])))
                                    for k in range(len(word))])
            counts.append(Slow(machine).least([(True,)]))
            self.check_first(machine, counts[-1])
        self.assertTrue({None, 2, 3, 4} <= set(counts), set(counts))

    def test_great_numbers(self):
        self.check_first(chain("ab", (), (since("a", "9!"), since("", "9", "9"))), None)
        self.check_first(chain("ab", (since("", "8", "9!"),), (since("a", "9!"),)), 2)

    def test_same_step_twice_and_steps_in_any_order(self):
        twice = chain("aba", (since("", "1"),), (since("a", "1"),), (since("b", "1"),))
        self.check_first(twice[:4] + (twice[4] * 2,), 3)
        self.check_first(twice[:4] + (twice[4][::-1],), 3)

    def test_shortest_of_some(self):
        # by way of 1 three letters, by way of 4 two, but then only late
        steps = ((0, "a", (), 1), (1, "a", (), 2), (2, "a", (), 3), (0, "b", (), 4),
                 (4, "b", (since("b", "2!"), since("", "2!")), 3))
        self.check_first(("ab", 5, (0,), (3,), steps), 2)
        self.check_first(("ab", 5, (0,), (3,), steps[:3]), 3)

    def test_of_many_starts_the_nearest(self):
        self.check_first(("a", 4, (0, 2), (3,), ((0, "a", (), 1), (1, "a", (), 2), (2, "a", (), 3))), 1)

    def test_as_all_looks_tell(self):
        draw = random.Random(11)
        counts = []
        for k in range(120):
            machine = wide_machine(draw, draw.choice(["a", "ab"])) if k % 3 else drawn_machine(draw)
            machine = machine[:3] + (machine[3][-1:], machine[4])
            counts.append(Slow(machine).least([(True,)]))
            self.check_first(machine, counts[-1])
        self.assertTrue({None, 0, 1, 2, 3} <= set(counts), set(counts))

    def test_as_fine_rows_tell(self):
        draw = random.Random(12)
        for _ in range(30):
            machine = wide_machine(draw, "ab", 3, 6, 1)
            row = first_row(machine)
            let = next((fine for fine in fine_rows("ab", 3, 1) if lets_by_words(machine, fine)), None)
            self.assertEqual(None if let is None else len(let[1]),
                             None if row is None or len(row[1]) > 3 else len(row[1]), machine)


class WithinTest(RowsTest):
    def test_example(self):
        self.check_within(LATE, SOON, 2)
        self.assertIsNone(within(SOON, LATE))

    def test_by_hand(self):
        self.check_within(ALL, NONE, 0)
        self.check_within(NONE, ALL, None)
        self.check_within(ALL, ALL, None)
        self.check_within(ALL, SOON, 0)
        self.check_within(SOON, ALL, None)
        self.check_within(cycle(3, (0,)), cycle(4, (0,)), 3)
        self.check_within(cycle(2, (0,)), cycle(4, (0, 2)), None)
        self.check_within(cycle(4, (0, 2)), cycle(4, (0,)), 2)

    def test_sharp_and_plain(self):
        kinds = {"0": [], "0!": [], "1": [], "1!": [], "2": [], "2!": []}
        for text in kinds:
            kinds[text] = chain("aa", (), (since("a", text),))
        order = list(kinds)
        for k, text in enumerate(order):
            for j, other in enumerate(order):
                self.check_within(kinds[text], kinds[other], None if j <= k else 2)

    def test_between_two_and_just_one(self):
        open_one = chain("aa", (), (since("a", "1!", "2!"),))
        self.check_within(chain("aa", (), (since("a", "1", "2"),)), open_one, 2)
        self.check_within(open_one, chain("aa", (), (since("a", "1", "2"),)), None)
        self.check_within(chain("aa", (), (since("a", "1!", "2"),)), open_one, 2)
        self.check_within(chain("aa", (), (since("a", "1", "2!"),)), open_one, 2)
        self.assertEqual(within(chain("a", (since("", "1", "2!"),)), chain("a", (since("", "1!", "2!"),))),
                         (1, (("a", 1),)))

    def test_limits_that_part_only_together(self):
        # each limit alone is in other; only between two ticks of the units do both hold
        one = chain("ab", (), (since("a", "0!"), since("", "0", "1!")))
        other = ("ab", 3, (0,), (2,), ((0, "a", (since("", "0", "0"),), 1), (1, "b", (), 2)))
        self.check_within(one, other, 2)
        self.check_within(other, one, 2)

    def test_two_steps_in_the_place_of_one(self):
        whole = ("a", 1, (0,), (0,), ((0, "a", (), 0),))
        parts = [("a", None, None), since("a", "0", "1!"), since("a", "1", "1"), since("a", "1!")]
        steps = tuple((0, "a", (limit,), 0) for limit in parts)
        self.check_within(whole, ("a", 1, (0,), (0,), steps), None)
        for k, count in enumerate([1, 2, 2, 2]):
            self.check_within(whole, ("a", 1, (0,), (0,), steps[:k] + steps[k + 1:]), count)

    def test_other_letters(self):
        only = {letter: (letter, 1, (0,), (0,), ((0, letter, (), 0),)) for letter in "abcd"}
        self.check_within(only["a"], only["b"], 1)
        self.check_within(only["a"], ALL, None)
        self.check_within(ALL, only["a"], 1)
        self.check_within(("cd", 1, (0,), (0,), ((0, "d", (since("", "2!"),), 0),)), ALL, 1)
        self.check_within(("cd", 1, (0,), (0,), ()), ALL, None)
        self.check_within(ALL, ("cd", 1, (), (), ()), 0)
        # the letters of one of them that the other one has, too, but without steps
        self.check_within(only["b"], ("abcd", 1, (0,), (0,), ((0, "b", (("a", None, None),), 0),)), None)

    def test_different_ways_of_guessing(self):
        # which of three states guessing leads to shows behind it alone
        one = ("ab", 3, (0,), (2,), ((0, "a", (), 1), (1, "a", (), 2), (1, "b", (), 2)))
        other = ("ab", 4, (0,), (3,), ((0, "a", (), 1), (0, "a", (), 2), (1, "a", (), 3), (2, "b", (), 3)))
        self.check_within(one, other, None)
        self.check_within(other, one, None)
        self.check_within(one, other[:4] + (other[4][:3],), 2)

    def test_long_row(self):
        slow = ("ab", 8, (0,), (7,), cycle(7, ())[4] + ((6, "a", (since("a", "1", "2"),), 7),))
        self.check_within(slow, cycle(3, (0,)), 7)
        self.check_within(slow, cycle(7, (0,)), None)
        row = within(cycle(16, (15,), (since("", "0"),)), cycle(15, tuple(range(14))))
        self.check_row(row, [cycle(16, (15,))], [cycle(15, tuple(range(14)))], cycle(16, ()))
        self.assertEqual(len(row[1]), 239)

    def test_registers(self):
        soon, late = register((since("a", "0", "1!"),)), register((since("a", "0", "1"),))
        self.check_within(soon, late, None)
        self.check_within(late, soon, Slow(late, soon).least([(True, False)]))

    def test_as_all_looks_tell(self):
        draw = random.Random(13)
        counts = []
        for k in range(100):
            letters = "a" if k % 4 == 0 else "ab"
            one = wide_machine(draw, letters, 3, 8, 1 if k % 3 else 2)
            other = changed_machine(draw, one) if k % 5 else wide_machine(draw, draw.choice(["ab", "bc", "b"]))
            counts.append(Slow(one, other).least([(True, False)]))
            self.check_within(one, other, counts[-1])
        self.assertTrue({None, 0, 1, 2, 3} <= set(counts), set(counts))

    def test_as_fine_rows_tell(self):
        draw = random.Random(14)
        for _ in range(40):
            one = wide_machine(draw, "ab", 2, 6, 1)
            other = changed_machine(draw, one)
            if greatest_by_words(one, other) > 1:
                # the fine rows do not go so far
                continue
            row = within(one, other)
            fine = next((row for row in fine_rows("ab", 3, 1)
                         if lets_by_words(one, row) and not lets_by_words(other, row)), None)
            self.assertEqual(None if fine is None else len(fine[1]),
                             None if row is None or len(row[1]) > 3 else len(row[1]), (one, other))


class PartedTest(RowsTest):
    def test_by_hand(self):
        self.check_parted(SOON, LATE, 2)
        self.check_parted(LATE, SOON, 2)
        self.check_parted(SOON, SOON, None)
        self.check_parted(ALL, NONE, 0)
        self.check_parted(NONE, ALL, 0)
        self.check_parted(NONE, ("z", 1, (0,), (), ()), None)

    def test_the_nearer_side(self):
        # three letters part them on the one side, one on the other
        one, other = chain("aaa", (), (), ()), chain("b", ())
        self.check_parted(one, other, 1)
        self.check_parted(other, one, 1)
        self.check_within(one, other, 3)

    def test_other_letters(self):
        self.check_parted(("ab", 1, (0,), (0,), ()), ("cd", 1, (0,), (0,), ()), None)
        self.check_parted(("ab", 1, (0,), (0,), ()), ("cd", 1, (0,), (0,), ((0, "d", (("c", None, None),), 0),)), 1)

    def test_as_all_looks_tell(self):
        draw = random.Random(15)
        counts = []
        for k in range(50):
            one = wide_machine(draw, "ab" if k % 2 else "a", 2, 6, 1 if k % 3 else 2)
            other = changed_machine(draw, one)
            counts.append(Slow(one, other).least([(True, False), (False, True)]))
            self.check_parted(one, other, counts[-1])
        self.assertTrue({None, 0, 1, 2} <= set(counts), set(counts))

    def test_both_sides_are_asked(self):
        draw = random.Random(16)
        for _ in range(60):
            one = wide_machine(draw)
            other = changed_machine(draw, one)
            counts = [None if row is None else len(row[1]) for row in
                      [within(one, other), within(other, one), parted(one, other), parted(other, one)]]
            least = min([count for count in counts[:2] if count is not None], default=None)
            self.assertEqual(counts[2:], [least, least])


class ErrorsTest(unittest.TestCase):
    def test_no_machine(self):
        for thing in anything() + spoiled(SOON):
            with self.assertRaises(NoMachine):
                first_row(thing)
            for call in [within, parted]:
                with self.assertRaises(NoMachine):
                    call(thing, SOON)
                with self.assertRaises(NoMachine):
                    call(SOON, thing)

    def test_anything_at_each_place(self):
        for thing in filled(SOON):
            if not is_machine(thing):
                for call, arguments in [(first_row, [thing]), (within, [thing, SOON]), (parted, [SOON, thing])]:
                    with self.assertRaises(NoMachine):
                        call(*arguments)
            elif len(thing[0]) < 5:
                self.assertIsNone(parted(thing, thing))

    def test_right_arguments_raise_nothing(self):
        for one in [SOON, WIDE, ALL, NONE]:
            for other in [SOON, ("c", 1, (), (), ())]:
                within(one, other)
                parted(one, other)
            first_row(one)


class OwnershipTest(unittest.TestCase):
    def test_arguments_are_as_before_and_results_equal(self):
        told = repr((WIDE, LATE))
        rows = [first_row(LATE), within(LATE, SOON), parted(SOON, LATE)]
        self.assertEqual([first_row(LATE), within(LATE, SOON), parted(SOON, LATE)], rows)
        self.assertEqual(repr((WIDE, LATE)), told)

    def test_by_names(self):
        self.assertEqual(first_row(machine=ALL), EMPTY)
        self.assertEqual(within(other=NONE, one=ALL), EMPTY)
        self.assertIsNone(within(other=ALL, one=NONE))
        self.assertEqual(parted(other=ALL, one=NONE), EMPTY)

    def test_rows_that_are_told_have_letters_of_the_machines(self):
        row = parted(SOON, ("c", 1, (0,), (0,), ((0, "c", (), 0),)))
        self.assertTrue(all(a in letters_by_words(SOON, ("c", 1, (), (), ())) for a, _ in row[1]))


if __name__ == "__main__":
    unittest.main()
