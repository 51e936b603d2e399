"""Point 14: left and next_row; and points 2 to 4 as far as they tell of these."""

import random
import unittest

from drawing import changed_machine, drawn_row, wide_machine
from samples import FINE, ROW, SOON, WIDE, anything, filled, spoiled
from words import Slow, fine_rows, lets_by_words

from sinceclocks.comparing import parted
from sinceclocks.errors import NoMachines, NoTold
from sinceclocks.joining import either, single, turned
from sinceclocks.machines import is_machine, lets
from sinceclocks.rows import is_row
from sinceclocks.telling import left, next_row

EARLY = ("a", 1, (0,), (0,), ((0, "a", (("", (0, False), (1, False)),), 0),))
SPACED = ("a", 1, (0,), (0,), ((0, "a", (("a", None, None),), 0), (0, "a", (("a", (2, False), None),), 0)))
# machines that see no times
ALL = ("a", 1, (0,), (0,), ((0, "a", (), 0),))
NONE = ("a", 1, (), (), ())
SOME = ("a", 2, (0,), (1,), ((0, "a", (), 1), (1, "a", (), 1)))
ODD = ("a", 2, (0,), (1,), ((0, "a", (), 1), (1, "a", (), 0)))
JUST_ONE = ("a", 2, (0,), (1,), ((0, "a", (), 1),))
# machines that do not look alike, but let the same rows
ALL_AGAIN = ("a", 2, (0, 1), (0, 1), ((0, "a", (("", (0, False), (1, False)),), 1),
                                      (0, "a", (("", (1, False), None),), 0), (1, "a", (), 0)))


def free(letters):
    """A machine that lets all rows with these letters."""
    return (letters, 1, (0,), (0,), tuple((0, a, (), 0) for a in letters))


def until(most):
    """A machine that lets one a at most so late, and nothing else."""
    return ("a", 2, (0,), (1,), ((0, "a", (("", (0, False), most),), 1),))


def counts_behind(machines, told, row):
    """How many machines are left behind the row if it is told with True, and with False."""
    return [len(left(machines, list(told) + [(row, truth)])) for truth in (True, False)]


class LeftTest(unittest.TestCase):
    def test_example(self):
        self.assertEqual(left([EARLY, SPACED], [((1, (("a", 0), ("a", 1))), True)]), [0])

    def test_by_hand(self):
        both = [EARLY, SPACED]
        self.assertEqual(left(both, []), [0, 1])
        self.assertEqual(left(both, [((1, (("a", 2),)), True)]), [1])
        self.assertEqual(left(both, [((1, (("a", 2),)), False)]), [0])
        self.assertEqual(left(both, [((2, (("a", 2), ("a", 2))), False)]), [1])
        self.assertEqual(left(both, [((1, (("a", 1),)), True)]), [0, 1])
        self.assertEqual(left(both, [((1, (("a", 1),)), False)]), [])
        self.assertEqual(left(both, [((1, (("a", 0), ("a", 1))), True), ((1, (("a", 2),)), True)]), [])
        self.assertEqual(left(both, [((1, (("a", 0), ("a", 1))), False), ((1, (("a", 2),)), False)]), [])

    def test_edges(self):
        self.assertEqual(left([], []), [])
        self.assertEqual(left((), ((ROW, True),)), [])
        self.assertEqual(left([EARLY], []), [0])
        self.assertEqual(left([ODD, ODD, SOME, ODD], [((1, (("a", 0), ("a", 0))), False)]), [0, 1, 3])
        # the row without events
        self.assertEqual(left([ALL, SOME, ODD, NONE], [((7, ()), True)]), [0])
        self.assertEqual(left([ALL, SOME, ODD, NONE], [((7, ()), False)]), [1, 2, 3])
        # one row with both truths, or the same row in another grain
        self.assertEqual(left([ALL, NONE], [(ROW, True), (FINE, True), (ROW, False)]), [])
        self.assertEqual(left([ALL, NONE], [((1, ()), True), ((2, ()), False)]), [])
        self.assertEqual(left([ALL, NONE], [((1, ()), True), ((1, ()), True)]), [0])
        # letters that a machine does not have
        self.assertEqual(left([ALL, free("az")], [((1, (("z", 0),)), True)]), [1])
        self.assertEqual(left([ALL, free("bc")], [((1, (("z", 0),)), False)]), [0, 1])

    def test_lists_and_tuples(self):
        for machines in [[ALL, SOME], (ALL, SOME)]:
            for told in [[((1, ()), False)], (((1, ()), False),)]:
                self.assertEqual(left(machines, told), [1])
                self.assertIsInstance(left(machines, told), list)

    def test_as_words_tell(self):
        draw = random.Random(91)
        for _ in range(60):
            machines = [wide_machine(draw, draw.choice(["a", "ab"])) for _ in range(draw.randrange(6))]
            told = [(drawn_row(draw, "aab", 4), draw.random() < 0.5) for _ in range(draw.randrange(4))]
            wanted = [k for k, machine in enumerate(machines)
                      if all(lets_by_words(machine, row) is truth for row, truth in told)]
            self.assertEqual(left(machines, told), wanted)


class NextRowTest(unittest.TestCase):
    def check(self, machines, told, wanted, events):
        """The row leaves at most as many as wanted, and has so many events."""
        row, many = next_row(machines, told)
        self.assertEqual((many, len(row[1])), (wanted, events))
        self.assertIs(is_row(row), True)
        self.assertEqual(max(counts_behind(machines, told, row)), many)
        return row

    def test_example(self):
        self.assertEqual(next_row([EARLY, SPACED], [])[1], 1)

    def test_nothing_to_ask(self):
        self.assertIsNone(next_row([], []))
        self.assertIsNone(next_row((), [(ROW, False)]))
        self.assertIsNone(next_row([EARLY], []))
        self.assertIsNone(next_row([EARLY, SPACED], [((1, (("a", 2),)), True)]))
        self.assertIsNone(next_row([EARLY, SPACED], [((1, ()), False)]))
        self.assertIsNone(next_row([ALL, ALL_AGAIN], []))
        self.assertIsNone(next_row([ALL, ALL], []))
        self.assertIsNone(next_row([ALL, ALL_AGAIN, ALL, ALL_AGAIN], []))
        self.assertIsNone(next_row([NONE, ("bc", 1, (0,), (), ()), ("d", 2, (1,), (0,), ()), NONE], []))
        self.assertIsNone(next_row([ALL, ALL_AGAIN, ALL, SOME], [((1, ()), True)]))

    def test_two(self):
        self.check([ALL, NONE], [], 1, 0)
        self.check([ALL, SOME], [], 1, 0)
        self.check([SOME, ODD], [], 1, 2)
        self.check([SOME, JUST_ONE], [], 1, 2)
        self.check([EARLY, SPACED], [], 1, 1)
        self.check([EARLY, until((1, False))], [], 1, 0)
        self.check([until((1, False)), until((1, True))], [], 1, 1)
        self.check([free("ab"), free("bc")], [], 1, 1)
        # of four only two are left
        row = self.check([ALL, ODD, NONE, SOME], [((1, ()), False), ((1, (("a", 3),)), True)], 1, 2)
        self.assertEqual([lets(ODD, row), lets(SOME, row)], [False, True])

    def test_three(self):
        self.check([ALL, SOME, ODD], [], 2, 0)
        self.check([SOME, ODD, JUST_ONE], [], 2, 2)
        self.check([ALL, ALL_AGAIN, SOME], [], 2, 0)
        self.check([free("ab"), free("bc"), free("cd")], [], 2, 1)
        self.check([until((1, False)), until((1, True)), until((2, False))], [], 2, 1)

    def test_four(self):
        # two let the row without events, two do not
        self.check([ALL, ALL_AGAIN, SOME, ODD], [], 2, 0)
        # one lets the row without events, but two let two events
        self.check([ALL, SOME, ODD, JUST_ONE], [], 2, 2)
        # one is always alone
        self.check([SOME, SOME, ALL, SOME], [], 3, 0)
        self.check([SOME, ODD, SOME, SOME], [], 3, 2)
        # letters: no row has two of them
        self.check([free("a"), free("b"), free("c"), free("d")], [], 3, 1)
        self.check([free("ab"), free("cd"), free("ef"), free("gh")], [], 3, 1)
        row = self.check([free("ab"), free("bc"), free("cd"), free("ad")], [], 2, 1)
        self.assertIn(row[1][0][0], "abcd")
        self.check([free("ab"), free("ab"), free("cd"), free("ef")], [], 2, 1)

    def test_a_row_behind_which_two_are_left(self):
        machines = [until((1, True)), until((1, False)), until((2, True)), until((2, False))]
        grain, ((letter, time),) = self.check(machines, [], 2, 1)
        self.assertEqual(letter, "a")
        self.assertTrue(grain < time < 2 * grain)
        # if the first one lets it, an a at one unit parts the rest; else one unit later does
        told = [((grain, ((letter, time),)), False)]
        self.assertEqual(left(machines, told), [0, 1])
        grain, ((letter, time),) = self.check(machines, told, 1, 1)
        self.assertEqual((letter, time), ("a", grain))

    def test_told_rows_count(self):
        machines = [ALL, SOME, ODD, JUST_ONE]
        self.check(machines, [((1, ()), False)], 2, 2)
        self.check(machines, [((3, (("a", 0), ("a", 1))), False)], 1, 3)
        self.check(machines, ((ROW, False), ((3, (("a", 0), ("a", 1))), False)), 1, 3)
        self.assertIsNone(next_row(machines, [((3, ()), True)]))

    def test_as_all_looks_tell(self):
        draw = random.Random(92)
        counts = {}
        for k in range(120):
            machines = self.drawn_machines(draw, k)
            told = [(drawn_row(draw, "ab", 2), True)] if k % 5 == 4 else []
            there = [machines[number] for number in left(machines, told)]
            answer = next_row(machines, told)
            wanted = self.best(there)
            if wanted is None:
                self.assertIsNone(answer, (machines, told))
            else:
                self.check(machines, told, wanted[0], wanted[1])
            kind = (len(there), wanted and wanted[0])
            counts[kind] = counts.get(kind, 0) + 1
        self.assertTrue({(2, 1), (3, 2), (4, 2), (4, 3), (3, None), (4, None)} <= set(counts), counts)

    def drawn_machines(self, draw, k):
        """Two to four machines, often much like each other."""
        letters, number = draw.choice(["a", "ab"]), draw.choice([1, 1, 2])
        machines = [wide_machine(draw, letters, 2, 4, number)]
        while len(machines) < [2, 3, 4, 4][k % 4]:
            changed = changed_machine(draw, draw.choice(machines))
            other = draw.choice([wide_machine(draw, draw.choice(["a", letters]), 2, 4, number), changed, changed])
            machines.append(draw.choice([other, machines[0]]) if k % 3 == 0 else other)
        return machines

    def best(self, machines):
        """The least number of machines with the same truth, and the least number of events for it, or None."""
        if len(machines) < 2:
            return None
        slow = Slow(*machines)
        levels = slow.levels(slow.start())
        found = [(max(sum(slow.truths(node)), len(machines) - sum(slow.truths(node))), levels[node])
                 for node in levels]
        return None if min(found)[0] == len(machines) else min(found)

    def test_as_fine_rows_tell(self):
        draw = random.Random(93)
        for k in range(25):
            machines = [wide_machine(draw, "ab", 2, 4, 1) for _ in range(draw.choice([2, 3, 4]))]
            rows = list(fine_rows("ab", 2, 1))
            best = min((max(counts_behind(machines, [], row)), len(row[1])) for row in rows)
            answer = next_row(machines, [])
            if answer is None:
                self.assertEqual(best[0], len(machines))
            else:
                self.assertLessEqual((answer[1], len(answer[0][1])), best)
                if len(answer[0][1]) <= 2:
                    self.assertEqual((answer[1], len(answer[0][1])), best)

    def test_two_of_any_size(self):
        draw = random.Random(94)
        for _ in range(30):
            one = wide_machine(draw, "ab", 4, 10)
            for other in [single(one), turned(one), changed_machine(draw, one), either(one, wide_machine(draw))]:
                row, answer = parted(one, other), next_row([one, other], [])
                self.assertIs(row is None, answer is None)
                if row is not None:
                    self.check([one, other], [], 1, len(row[1]))

    def test_asking_on_and_on_ends(self):
        draw = random.Random(95)
        for k in range(80):
            machines = [wide_machine(draw, "ab", 2, 4) for _ in range(2)]
            machines += [changed_machine(draw, machines[0]), changed_machine(draw, machines[1])]
            machines = [machine for machine in machines if len(machine[4]) <= 4]
            told = []
            secret = draw.choice(machines)
            while (answer := next_row(machines, told)) is not None:
                before = len(left(machines, told))
                row, many = answer
                told.append((row, lets_by_words(secret, row)))
                self.assertLessEqual(len(left(machines, told)), many)
                self.assertLess(many, before)
                self.assertLessEqual(len(told), len(machines))
            for number in left(machines, told):
                self.assertIsNone(parted(machines[number], secret))
            self.assertIn(secret, [machines[number] for number in left(machines, told)])


class ErrorsTest(unittest.TestCase):
    def test_no_machines(self):
        for thing in anything() + [EARLY, {0: EARLY}, "".join(["a"])]:
            if thing in ([], ()):
                continue
            for call in [left, next_row]:
                with self.assertRaises(NoMachines):
                    call(thing, [])
                with self.assertRaises(NoMachines):
                    call(thing, None)

    def test_no_machine_among_them(self):
        for thing in anything() + spoiled(SOON):
            for machines in [[thing], (SOON, thing), [thing, SOON], [SOON] * 19 + [thing]]:
                for call in [left, next_row]:
                    with self.assertRaises(NoMachines):
                        call(machines, [(ROW, True)])

    def test_no_told(self):
        for thing in anything() + [ROW, (ROW, True)]:
            if thing in ([], ()):
                continue
            for call in [left, next_row]:
                with self.assertRaises(NoTold):
                    call([EARLY], thing)
                with self.assertRaises(NoTold):
                    call((), thing)

    def test_no_told_row_among_them(self):
        wrong = anything() + [(ROW,), (ROW, True, True), [ROW, True], (True, ROW), (ROW, 1), (ROW, 0), (ROW, None),
                              (ROW, "True"), (ROW, (True,)), (ROW, []), ROW]
        for thing in wrong + [(row, True) for row in spoiled(ROW)]:
            for told in [[thing], (thing,), [(ROW, True), thing], ((FINE, False),) * 19 + (thing,)]:
                for call in [left, next_row]:
                    with self.assertRaises(NoTold):
                        call([SOON, WIDE], told)

    def test_anything_at_each_place(self):
        for thing in filled(SOON):
            if not is_machine(thing):
                with self.assertRaises(NoMachines):
                    next_row([WIDE, thing], [])
        for thing in filled((ROW, True)):
            if not (isinstance(thing, tuple) and len(thing) == 2 and is_row(thing[0]) and isinstance(thing[1], bool)):
                with self.assertRaises(NoTold):
                    left([WIDE], [thing])

    def test_right_arguments_raise_nothing(self):
        for machines in [[], (), [SOON], (SOON, WIDE), [SOON] * 2]:
            for told in [[], (), [(ROW, True)], ((ROW, False), (FINE, True))]:
                self.assertIsInstance(left(machines, told), list)
                next_row(machines, told)


class OwnershipTest(unittest.TestCase):
    def test_lists_belong_to_the_caller(self):
        first = left([ALL, SOME], [])
        first.append(7)
        first[0] = None
        self.assertEqual(left([ALL, SOME], []), [0, 1])
        self.assertIsNot(left([], []), left([], []))

    def test_arguments_are_as_before_and_results_equal(self):
        machines, told = [ALL, SOME, ODD, JUST_ONE], [((1, ()), False), ((1, (("a", 0),)), True)]
        before = repr((machines, told))
        self.assertEqual(repr([left(machines, told), next_row(machines, told)]),
                         repr([left(machines, told), next_row(machines, told)]))
        self.assertEqual(repr((machines, told)), before)
        result = left(machines, told)
        machines.clear()
        told.append(None)
        self.assertEqual(result, [1, 2, 3])

    def test_by_names(self):
        self.assertEqual(left(told=[((1, ()), True)], machines=[SOME, ALL]), [1])
        self.assertEqual(next_row(told=[], machines=[SOME, ALL]), ((1, ()), 1))


if __name__ == "__main__":
    unittest.main()
