"""Point 10: compared and is_table; and points 2 to 4 as far as they tell of these."""

import random
import unittest

from drawing import changed_machine, cycle, register, wide_machine
from samples import SOON, WIDE, anything, filled, of_other_kind, part_at, places, spoiled, with_part
from words import Slow, greatest_by_words, is_closed_by_words, lets_by_words

from sinceclocks.comparing import compared, is_table, within
from sinceclocks.errors import NoMachine
from sinceclocks.looks import look
from sinceclocks.machines import is_machine
from sinceclocks.rows import is_row

LATE = ("ab", 2, (0,), (1,), ((0, "a", (), 0), (0, "b", (("a", (0, False), (2, False)),), 1)))
ALL = ("ab", 1, (0,), (0,), ((0, "a", (), 0), (0, "b", (), 0)))
NONE = ("ab", 1, (), (), ())
# lets one a, just a unit behind the begin
PUNCTUAL = ("a", 2, (0,), (1,), ((0, "a", (("", (1, False), (1, False)),), 1),))
ONE_A = ("a", 2, (0,), (1,), ((0, "a", (), 1),))
BEGIN = ((0, 0), None)


def drawn_pairs(seed, count, most_number=1):
    draw = random.Random(seed)
    for k in range(count):
        one = wide_machine(draw, "a" if k % 3 == 0 else "ab", 3, 6, most_number)
        yield one, changed_machine(draw, one) if k % 4 else wide_machine(draw, "ab", 2, 6, most_number)


class ComparedTest(unittest.TestCase):
    def test_by_hand(self):
        # m is 1; the a leads to 1 at one moment alone, else one is nowhere, so there is nothing more to tell
        self.assertEqual(compared(PUNCTUAL, ONE_A), ("within", [((0,), (0,), BEGIN), ((1,), (1,), ((1, 0), (0, 0)))]))
        # where other has no a at this moment, it is nowhere, and lets it not
        nowhere = ("a", 2, (0,), (1,), ((0, "a", (("", (1, True), None),), 1),))
        self.assertEqual(compared(PUNCTUAL, nowhere), ("row", (1, (("a", 1),))))

    def test_starts(self):
        self.assertEqual(compared(NONE, ALL), ("within", [((), (0,), ((0, 0), None, None))]))
        self.assertEqual(compared(NONE, NONE), ("within", [((), (), ((0, 0), None, None))]))
        self.assertEqual(compared(NONE, ("c", 1, (), (), ())), ("within", [((), (), ((0, 0), None, None, None))]))
        self.assertEqual(compared(ALL, NONE), ("row", (1, ())))

    def test_no_limits(self):
        # m is 0: an entry tells alone whether the letter came just now
        one = ("a", 1, (0,), (0,), ((0, "a", (), 0),))
        kind, table = compared(one, one)
        self.assertEqual(kind, "within")
        self.assertEqual({here for _, _, here in table}, {BEGIN, ((0, 0), (0, 0)), ((1, 0), (0, 0))})
        self.assertEqual({(ones, others) for ones, others, _ in table}, {((0,), (0,))})
        for here, wanted in [(((1, 0), None), True), (((1, 0), (1, 0)), True), (((0, 1), None), False),
                             (((2, 0), None), False)]:
            self.assertIs(is_table(one, one, table + [((0,), (0,), here)]), wanted)

    def test_rows_that_no_other_letter_goes_on(self):
        # b and c are no letters of both; where one goes on by b, other is nowhere
        one = ("ab", 2, (0,), (0,), ((0, "a", (), 0), (0, "b", (), 1)))
        other = ("ac", 1, (0,), (0,), ((0, "a", (), 0), (0, "c", (), 0)))
        kind, table = compared(one, other)
        self.assertEqual(kind, "within")
        self.assertEqual({(ones, others) for ones, others, _ in table}, {((0,), (0,)), ((1,), ())})
        self.assertTrue(is_closed_by_words(one, other, table))
        self.assertTrue(all(len(here) == 4 and here[3] is None for _, _, here in table))

    def test_what_is_told(self):
        kinds = []
        for one, other in drawn_pairs(21, 120):
            kind, told = compared(one, other)
            kinds.append(kind)
            if kind == "within":
                self.assertIsNone(within(one, other))
                self.assertIsInstance(told, list)
                self.assertTrue(is_closed_by_words(one, other, told), (one, other))
                self.assertIs(is_table(one, other, told), True)
            else:
                self.assertEqual(kind, "row")
                self.check_row(one, other, told)
        self.assertGreater(kinds.count("within"), 20)
        self.assertGreater(kinds.count("row"), 20)

    def check_row(self, one, other, row):
        self.assertIs(is_row(row), True)
        self.assertEqual(len(row[1]), len(within(one, other)[1]))
        self.assertTrue(lets_by_words(one, row) and not lets_by_words(other, row), (one, other, row))
        self.assertLessEqual(row[0], len(row[1]) + 1)
        times = [0] + [time for _, time in row[1]]
        most = greatest_by_words(one, other) * row[0] + 1
        self.assertTrue(all(times[k + 1] - times[k] <= most for k in range(len(row[1]))), row)

    def test_kinds_of_values(self):
        kind, table = compared(LATE, ALL)
        for part in table:
            self.assertIsInstance(part, tuple)
            self.assertEqual(len(part), 3)
            ones, others, here = part
            self.assertTrue(isinstance(ones, tuple) and isinstance(others, tuple) and isinstance(here, tuple))

    def test_sets_of_states(self):
        guessing = register((("a", (0, False), (1, True)),), "a")
        kind, table = compared(guessing, guessing)
        self.assertEqual(kind, "within")
        self.assertTrue(is_closed_by_words(guessing, guessing, table))
        self.assertGreater(len({ones for ones, _, _ in table}), 7)


class IsTableTest(unittest.TestCase):
    def test_by_hand(self):
        table = [((0,), (0,), BEGIN), ((1,), (1,), ((1, 0), (0, 0)))]
        self.assertIs(is_table(PUNCTUAL, ONE_A, table), True)
        self.assertIs(is_table(PUNCTUAL, ONE_A, table[::-1]), True)
        self.assertIs(is_table(PUNCTUAL, ONE_A, tuple(table)), False)
        self.assertIs(is_table(PUNCTUAL, ONE_A, table[:1]), False)
        self.assertIs(is_table(PUNCTUAL, ONE_A, table[1:]), False)
        self.assertIs(is_table(PUNCTUAL, ONE_A, table + table[1:]), False)
        self.assertIs(is_table(PUNCTUAL, ONE_A, []), False)
        # states of which no row tells, but that are closed
        for more in [((), (0,), BEGIN), ((), (), BEGIN), ((1,), (0, 1), BEGIN), ((1,), (1,), ((2, 0), (1, 0))),
                     ((0,), (), ((2, 0), None)), ((0,), (0,), ((0, 0), (0, 0)))]:
            self.assertIs(is_table(PUNCTUAL, ONE_A, table + [more]), True, more)
        # an end of one without an end of other, and one that leads to what is not there
        for more in [((1,), (0,), BEGIN), ((0, 1), (), BEGIN), ((0,), (), BEGIN), ((0,), (), ((1, 0), None)),
                     ((0, 1), (1,), BEGIN), ((0,), (1,), ((0, 1), None))]:
            self.assertIs(is_table(PUNCTUAL, ONE_A, table + [more]), False, more)

    def test_no_looks_of_the_two(self):
        table = [((0,), (0,), BEGIN), ((1,), (1,), ((1, 0), (0, 0)))]
        for here in [((3, 0), None), ((2, 1), None), ((1, 1), None), ((0, 2), None), ((0, 0),), ((0, 0), None, None),
                     (None, None), ((0, 0), (1, 0)), None, (), "", [(0, 0), None], ((0, 0), ()), ((False, 0), None),
                     ((0, 0), (False, False)), ((True, 0), None)]:
            self.assertIs(is_table(PUNCTUAL, ONE_A, table + [((), (), here)]), False, here)
        for here in [((2, 0), None), ((1, 0), None), ((0, 1), None), ((0, 0), (0, 0)), ((1, 0), (0, 1))]:
            self.assertIs(is_table(PUNCTUAL, ONE_A, table + [((), (), here)]), True, here)

    def test_no_states_of_the_two(self):
        three = ("a", 3, (0,), (1,), ((0, "a", (), 1),))
        table = compared(ONE_A, three)[1]
        for ones, others in [((2,), ()), ((-1,), ()), ((), (3,)), ((), (-1,)), ((1, 0), (1,)), ((1, 1), (1,)),
                             ((), (1, 0)), ((), (2, 2)), ((False,), ()), ((), (True,)), ([], ()), ((), []), (None, ()),
                             ((), None), ("", ()), (0, 0)]:
            self.assertIs(is_table(ONE_A, three, table + [(ones, others, BEGIN)]), False, (ones, others))
        for ones, others in [((1,), (1, 2)), ((), (2,)), ((), (0, 2)), ((1,), (0, 1, 2))]:
            self.assertIs(is_table(ONE_A, three, table + [(ones, others, BEGIN)]), True, (ones, others))

    def test_bent_tables(self):
        # any other order will do; with an entry left out, bent or twice it is no closed table, unless the words say so
        draw = random.Random(23)
        closed = 0
        for one, other in drawn_pairs(22, 60):
            kind, table = compared(one, other)
            if kind == "row":
                continue
            draw.shuffle(table)
            self.assertIs(is_table(one, other, table), True)
            for _ in range(6):
                bent = bend(draw, table, one[1], other[1])
                wanted = is_closed_by_words(one, other, bent)
                closed += wanted
                self.assertIs(is_table(one, other, bent), wanted, (one, other, bent))
        self.assertGreater(closed, 10)

    def test_each_entry_is_needed(self):
        for one, other in [(SOON, LATE), (cycle(3, (0,), (("a", (0, False), (1, True)),)), ALL)]:
            table = compared(one, other)[1]
            for k in range(len(table)):
                self.assertIs(is_table(one, other, table[:k] + table[k + 1:]), False)
                self.assertIs(is_table(one, other, table + [table[k]]), False)
            self.assertIs(is_table(one, other, table), True)

    def test_tables_of_other_pairs(self):
        table = compared(SOON, LATE)[1]
        self.assertIs(is_table(LATE, SOON, table), False)
        self.assertIs(is_table(LATE, LATE, table), False)
        self.assertIs(is_table(ALL, ALL, table), False)
        # both are in the same states in each entry
        self.assertIs(is_table(SOON, SOON, table), True)
        # with another m or other letters the looks are others
        self.assertIs(is_table(("a",) + ALL[1:4] + ((),), ("a",) + ALL[1:4] + ((),), [((0,), (0,), BEGIN)]), True)
        self.assertIs(is_table(("a",) + ALL[1:4] + ((),), ALL[:4] + ((),), [((0,), (0,), BEGIN)]), False)

    def test_no_table_where_a_row_parts_them(self):
        self.assertIs(is_table(ALL, NONE, [((0,), (), ((0, 0), None, None))]), False)
        for one, other in drawn_pairs(24, 60):
            slow = Slow(one, other)
            if slow.least([(True, False)]) is not None:
                table = [sets + (here,) for sets, here in slow.levels(slow.start())]
                self.assertIs(is_table(one, other, table), False)
                good = [part for part in table if not slow.truths((part[:2], part[2])) == (True, False)]
                self.assertIs(is_table(one, other, good), False)

    def test_all_looks_and_no_rows(self):
        # of machines without ends each list is closed that has all that can be behind the begin
        draw = random.Random(25)
        for _ in range(10):
            one, other = [machine[:3] + ((),) + machine[4:] for machine in
                          [wide_machine(draw, "a", 2, 5, 1), wide_machine(draw, "a", 2, 5, 1)]]
            slow = Slow(one, other)
            table = [sets + (here,) for sets, here in slow.levels(slow.start())]
            self.assertIs(is_table(one, other, table), True)
            self.assertIs(is_table(one, other, [part for part in table if part[0]] or table), True)

    def test_kinds_at_each_place(self):
        table = compared(PUNCTUAL, ONE_A)[1] + [((1,), (0, 1), ((2, 0), (1, 0)))]
        self.assertIs(is_table(PUNCTUAL, ONE_A, table), True)
        bent = tuple(table)
        for way in places(bent):
            for part in of_other_kind(part_at(bent, way)):
                thing = with_part(bent, way, part)
                thing = list(thing) if way else thing
                self.assertIs(is_table(PUNCTUAL, ONE_A, thing), way == () and thing == table, thing)

    def test_anything(self):
        table = compared(PUNCTUAL, ONE_A)[1]
        for thing in anything() + [table[0], tuple(table), {0: table}, [table], [tuple(table)], [list(table[0])]]:
            self.assertIs(is_table(PUNCTUAL, ONE_A, thing), False)
            self.assertIs(is_table(PUNCTUAL, ONE_A, table + [thing]), False)
        for thing in filled(tuple(table)):
            if isinstance(thing, tuple):
                self.assertIs(is_table(PUNCTUAL, ONE_A, list(thing)), is_right(thing, PUNCTUAL, ONE_A), thing)


def is_right(thing, one, other):
    """Whether these are parts of a table, of the right kinds, and closed."""
    for part in thing:
        if not (isinstance(part, tuple) and len(part) == 3 and repr(part[2]) in LOOKS):
            return False
        for states, machine in zip(part, (one, other)):
            if not (isinstance(states, tuple) and repr(states) in ("()", "(0,)", "(1,)", "(0, 1)")):
                return False
    return is_closed_by_words(one, other, list(thing))


# the looks of one letter for m of 1, as far as the tests put them in
LOOKS = [repr(here) for here in [((0, 0), None), ((1, 0), (0, 0)), ((0, 0), (0, 0))]]


def bend(draw, table, many, others_many):
    """The table with an entry left out, put in, twice, or changed."""
    at = draw.randrange(len(table))
    ones, others, here = table[at]
    change = draw.randrange(6)
    if change == 0:
        return table[:at] + table[at + 1:]
    if change == 1:
        return table + [table[at]]
    some = tuple(s for s in range(many) if draw.random() < 0.4)
    more = tuple(s for s in range(others_many) if draw.random() < 0.8)
    put = draw.choice([(some, more, here), (some, others, here), (ones, more, here), ((), (), here)])
    if put in table:
        return table[::-1]
    return table[:at] + [put] + table[at + draw.randrange(2):]


class ErrorsTest(unittest.TestCase):
    def test_no_machine(self):
        for thing in anything() + spoiled(SOON):
            with self.assertRaises(NoMachine):
                compared(thing, SOON)
            with self.assertRaises(NoMachine):
                compared(SOON, thing)
            with self.assertRaises(NoMachine):
                is_table(thing, SOON, [])
            with self.assertRaises(NoMachine):
                is_table(SOON, thing, None)

    def test_anything_at_each_place(self):
        for thing in filled(SOON):
            if not is_machine(thing):
                with self.assertRaises(NoMachine):
                    compared(SOON, thing)

    def test_right_arguments_raise_nothing(self):
        for one in [SOON, WIDE, ALL, NONE]:
            for other in [SOON, ("c", 1, (), (), ())]:
                self.assertIn(compared(one, other)[0], ["within", "row"])
                self.assertIn(is_table(one, other, []), [True, False])


class OwnershipTest(unittest.TestCase):
    def test_table_belongs_to_the_caller(self):
        first = compared(SOON, LATE)
        again = compared(SOON, LATE)
        self.assertEqual(first, again)
        self.assertIsNot(first[1], again[1])
        first[1].clear()
        self.assertEqual(compared(SOON, LATE), again)

    def test_arguments_are_as_before(self):
        table = compared(SOON, LATE)[1]
        told = repr((SOON, LATE, table))
        for _ in range(2):
            self.assertIs(is_table(SOON, LATE, table), True)
            self.assertIs(is_table(SOON, LATE, table[1:]), False)
        self.assertEqual(repr((SOON, LATE, table)), told)

    def test_by_names(self):
        table = compared(other=LATE, one=SOON)[1]
        self.assertIs(is_table(thing=table, other=LATE, one=SOON), True)

    def test_begin_of_each_table(self):
        for one, other in [(SOON, LATE), (SOON, ALL)]:
            first = (one[2], other[2], look((1, ()), "ab", greatest_by_words(one, other)))
            self.assertIn(first, compared(one, other)[1])


if __name__ == "__main__":
    unittest.main()
