"""Point 16: row_text, machine_text, read_row and read_machine; and points 2 to 4 as far as they tell of these."""

import random
import re
import unittest

from drawing import drawn_machine, drawn_row, wide_machine
from samples import FINE, ROW, SOON, WIDE, anything, filled, spoiled

from sinceclocks.errors import NoMachine, NoRow, NoText
from sinceclocks.joining import both, either, single, turned
from sinceclocks.machines import is_machine
from sinceclocks.rows import is_row
from sinceclocks.texts import machine_text, read_machine, read_row, row_text

EARLY = ("a", 1, (0,), (0,), ((0, "a", (("", (0, False), (1, False)),), 0),))
HEAD = "letters ab\nstates 2\nstarts 0 1\nends"
STEP = "step 0 a 1 .over0 bfrom1under2 anever"
GREAT = 10 ** 30 - 1

NUMBER = "(?:0|[1-9][0-9]{0,29})"
LIMIT = f"(?:[a-z]never|[a-z.](?:from|over){NUMBER}(?:(?:to|under){NUMBER})?)"
GRAIN_LINE, EVENT_LINE = f"grain {NUMBER}", f"[a-z] {NUMBER}"
MACHINE_LINES = ["letters a?b?c?d?e?f?g?h?i?j?k?l?m?n?o?p?q?r?s?t?u?v?w?x?y?z?(?<=[a-z])", f"states {NUMBER}",
                 f"starts(?: {NUMBER})*", f"ends(?: {NUMBER})*"]
STEP_LINE = f"step {NUMBER} [a-z] {NUMBER}(?: {LIMIT})*"


def line_by_words(lines, forms, last_form):
    """The number of the first line that is not of its form, or None; lines behind the forms are of the last one."""
    for k, line in enumerate(lines):
        if not re.fullmatch(forms[k] if k < len(forms) else last_form, line):
            return k + 1
    return None


def row_by_words(text):
    """What the text writes as a row, or the number of the line that is told."""
    lines = text.split("\n")
    wrong = line_by_words(lines, [GRAIN_LINE], EVENT_LINE)
    if wrong is not None:
        return wrong
    words = [line.split() for line in lines]
    row = (int(words[0][1]), tuple((letter, int(time)) for letter, time in words[1:]))
    return row if is_row(row) else len(lines) + 1


def limit_by_words(word):
    name, least, low, most, high = re.fullmatch(r"(.)(never|from|over)(\d*)(to|under)?(\d*)", word).groups()
    x = "" if name == "." else name
    if least == "never":
        return (x, None, None)
    return (x, (int(low), least == "over"), None if most is None else (int(high), most == "under"))


def machine_by_words(text):
    """What the text writes as a machine, or the number of the line that is told."""
    lines = text.split("\n")
    wrong = line_by_words(lines, MACHINE_LINES, STEP_LINE)
    if wrong is not None:
        return wrong
    words = [line.split() for line in lines]
    if len(lines) < 4:
        return len(lines) + 1
    steps = tuple((int(s), a, tuple(limit_by_words(word) for word in limits), int(t)) for _, s, a, t, *limits
                  in words[4:])
    machine = (words[0][1], int(words[1][1]), tuple(map(int, words[2][1:])), tuple(map(int, words[3][1:])), steps)
    return machine if is_machine(machine) else len(lines) + 1


def told(call, text):
    """What the call returns, or the line that it tells."""
    try:
        return call(text)
    except NoText as error:
        return error.line


def bent(text, signs):
    """All texts that are this one with one sign left out, put in, doubled or changed."""
    for k in range(len(text) + 1):
        yield text[:k] + text[k + 1:]
        for sign in signs:
            yield text[:k] + sign + text[k:]
            yield text[:k] + sign + text[k + 1:]


class WriteTest(unittest.TestCase):
    def test_examples(self):
        self.assertEqual(machine_text(EARLY), "letters a\nstates 1\nstarts 0\nends 0\nstep 0 a 0 .from0to1")
        wide = ("ab", 2, (0, 1), (), ((0, "a", (("", (0, True), None), ("b", (1, False), (2, True)),
                                               ("a", None, None)), 1),))
        self.assertEqual(machine_text(wide), HEAD + "\n" + STEP)

    def test_rows(self):
        self.assertEqual(row_text((1, ())), "grain 1")
        self.assertEqual(row_text(ROW), "grain 10\na 0\na 15\nb 34")
        self.assertEqual(row_text((GREAT, (("z", 0), ("a", GREAT)))), f"grain {GREAT}\nz 0\na {GREAT}")

    def test_machines(self):
        self.assertEqual(machine_text(("xyz", 1, (), (), ())), "letters xyz\nstates 1\nstarts\nends")
        steps = ((2, "b", (), 0), (0, "a", (("", (0, False), None),), 2), (2, "b", (), 0))
        self.assertEqual(machine_text(("ab", 3, (0, 2), (1,), steps)),
                         "letters ab\nstates 3\nstarts 0 2\nends 1\nstep 2 b 0\nstep 0 a 2 .from0\nstep 2 b 0")

    def test_limits(self):
        limits = {"tnever": ("t", None, None), ".from0": ("", (0, False), None), ".over0": ("", (0, True), None),
                  "tfrom3to4": ("t", (3, False), (4, False)), "tover3to4": ("t", (3, True), (4, False)),
                  "tfrom3under4": ("t", (3, False), (4, True)), "tover30under0": ("t", (30, True), (0, True)),
                  ".from1000to1000": ("", (1000, False), (1000, False))}
        for word, limit in limits.items():
            machine = ("t", 1, (), (), ((0, "t", (limit,), 0),))
            text = "letters t\nstates 1\nstarts\nends\nstep 0 t 0 " + word
            self.assertEqual(machine_text(machine), text)
            self.assertEqual(read_machine(text), machine)


class ReadTest(unittest.TestCase):
    def test_examples(self):
        self.assertEqual(read_row("grain 2\na 1"), (2, (("a", 1),)))
        self.assertEqual(read_machine(HEAD + "\n" + STEP),
                         ("ab", 2, (0, 1), (), ((0, "a", (("", (0, True), None), ("b", (1, False), (2, True)),
                                                         ("a", None, None)), 1),)))

    def test_kinds(self):
        """All is a tuple, a number, a string, True, False or None, just as is_row and is_machine ask for."""
        self.assertIs(is_row(read_row("grain 1\na 0\na 1")), True)
        self.assertIs(is_machine(read_machine(HEAD + "\n" + STEP)), True)
        self.assertEqual(repr(read_machine(machine_text(WIDE))), repr(WIDE))
        self.assertEqual(repr(read_row(row_text(FINE))), repr(FINE))

    def test_what_is_written_is_read_again(self):
        draw = random.Random(121)
        for k in range(150):
            row = drawn_row(draw, "abcxyz", 8, 30)
            self.assertEqual(repr(read_row(row_text(row))), repr(row))
            machine = drawn_machine(draw) if k % 2 else wide_machine(draw, "hz", 12, 30, 1000)
            self.assertEqual(repr(read_machine(machine_text(machine))), repr(machine))
            self.assertEqual(machine_by_words(machine_text(machine)), machine)

    def test_returned_machines(self):
        draw = random.Random(122)
        for _ in range(20):
            one, other = wide_machine(draw, "ab"), wide_machine(draw, "bc")
            for machine in [single(one), turned(one), both(one, other), either(one, other)]:
                self.assertEqual(read_machine(machine_text(machine)), machine)

    def test_text_that_is_read_is_written_again(self):
        for text in ["grain 1", "grain 7\nz 0\na 0\na 1000", f"grain {GREAT}\na {GREAT}"]:
            self.assertEqual(row_text(read_row(text)), text)
        for text in [HEAD, HEAD + " 0 1\n" + STEP, HEAD + ("\n" + STEP) * 3]:
            self.assertEqual(machine_text(read_machine(text)), text)


class RowLinesTest(unittest.TestCase):
    def check(self, text, line):
        with self.assertRaises(NoText) as caught:
            read_row(text)
        self.assertEqual(caught.exception.line, line, text)
        self.assertNotIsInstance(caught.exception.line, bool)

    def test_first_line(self):
        for text in ["", " ", "\n", "grain", "grain ", "grain 1 ", " grain 1", "grain  1", "grain 1 2", "Grain 1", "a 1",
                     "grain a", "grain -1", "grain +1", "grain 1.0", "grain 01", "grain 00", "1", "grain1", "grains 1",
                     "grain 1\t", "grain " + "1" * 31, "grain\n1", "~" * 4000, "\ngrain 1", "letters a"]:
            self.check(text, 1)
            self.check(text + "\na", 1)

    def test_events(self):
        for line in ["", " ", "a", "a ", " a", "a  1", "a 1 ", " a 1", "a 1 1", "a1", "A 1", "ab 1", "1 a", "1 1", ". 1",
                     "a -1", "a 01", "a 00", "a x", "a b", "grain 1", "a " + "9" * 31, "a 1_0", "a 1.5"]:
            self.check("grain 1\n" + line, 2)
            self.check("grain 0\n" + line, 2)
            self.check("grain 1\nb 3\na 2\n" + line + "\na", 4)

    def test_line_feed_at_the_end(self):
        self.check("grain 1\n", 2)
        self.check("grain 1\na 1\n", 3)
        self.check("grain 1\n\na 1", 2)

    def test_matters_of_the_whole(self):
        self.check("grain 0", 2)
        self.check("grain 0\na 1", 3)
        self.check("grain 1\na 2\nb 1", 4)
        self.check("grain 1\na 2\nb 1\na 7", 5)

    def test_figures(self):
        self.assertEqual(read_row("grain " + "9" * 30 + "\na 0\nb " + "1" * 30), (GREAT, (("a", 0), ("b", int("1" * 30)))))

    def test_bent_in_one_place(self):
        signs = "ab019 \n.Agz-"
        for row in [(1, ()), (20, (("a", 0), ("b", 10), ("b", 11))), (3, (("z", 5), ("z", 5)))]:
            for text in bent(row_text(row), signs):
                self.assertEqual(told(read_row, text), row_by_words(text), text)


class MachineLinesTest(unittest.TestCase):
    def check(self, text, line):
        with self.assertRaises(NoText) as caught:
            read_machine(text)
        self.assertEqual(caught.exception.line, line, text)
        self.assertNotIsInstance(caught.exception.line, bool)

    def test_letters(self):
        for line in ["", "letters", "letters ", "letters ba", "letters aa", "letters aba", "letters A", "letters a b",
                     "letters  a", "letters a ", " letters a", "letters 1", "letters .", "letter a", "Letters a", "a",
                     "states 1", "grain 1", "letters ab-"]:
            self.check("\n".join([line, "states 2", "starts", "ends"]), 1)
            self.check(line, 1)

    def test_states(self):
        for line in ["", "states", "states ", "states 1 2", "states a", "states 01", "states -1", "states  1", "states 1 ",
                     "starts 1", "state 1", "states " + "1" * 31]:
            self.check("\n".join(["letters ab", line, "starts", "ends"]), 2)

    def test_starts_and_ends(self):
        for word, ahead in [("starts", []), ("ends", ["starts 0"])]:
            for line in ["", word + " ", word + " a", word + " 0 ", word + " 0  1", word + " 00", word + " 0,1",
                         word + "0", " " + word, word[:-1], word + " -1", "step 0 a 0", word + " " + "1" * 31]:
                self.check("\n".join(["letters ab", "states 2"] + ahead + [line, "ends"]), 3 + len(ahead))

    def test_steps(self):
        for line in ["", "step", "step ", "step 0", "step 0 a", "step 0 a 1 ", "step 0 a  1", " step 0 a 1", "step a 0 1",
                     "step 0 1 a", "step 0 A 1", "step 0 ab 1", "step 0 . 1", "step 0 a 01", "step 00 a 1", "steps 0 a 1",
                     "0 a 1", "step 0 a 1  .from0", "step 0 a 1 .from0 ", "step 0 a " + "1" * 31, "ends", "Step 0 a 1",
                     "step 0 a -1", "step 0 a b"]:
            self.check(HEAD + "\n" + line, 5)
            self.check(HEAD + "\n" + STEP + "\n" + line + "\n" + STEP, 6)

    def test_limits(self):
        for word in [".", "a", ".never", "never", "aNever", "anever1", "anevers", "afrom", "aover", ".from", "from0",
                     "afrom01", "afrom00", "afrom0to", "afrom0under", "afrom0to01", "ato1", "aunder1", ".to1", "a0",
                     "afrom0to1to2", "afrom0to1under2", "afrom0under1to2", "afrom0under1under2", "afrom0from1",
                     "aover0over1", "afromto1", "afrom0tounder1", "aafrom0", "..from0", "Afrom0", "1from0", "afrom-1",
                     "afrom0,to1", "afrom" + "1" * 31, "afrom0to" + "1" * 31, "afrom1t2", "afro1", "anevr", "afromx",
                     "afrom1never", "aneverfrom1", "a.from1", "-from1", "afrom1 to2", "a from1", "tto1", "uunder1"]:
            self.check(HEAD + "\nstep 0 a 1 " + word, 5)
            self.check(HEAD + "\nstep 0 a 1 .from0 " + word + " .from0", 5)

    def test_letters_that_words_begin_with(self):
        for word, limit in [("ffrom0", ("f", (0, False), None)), ("oover1", ("o", (1, True), None)),
                            ("nnever", ("n", None, None)), ("tfrom0to1", ("t", (0, False), (1, False))),
                            ("ufrom0under1", ("u", (0, False), (1, True)))]:
            text = "letters fnotu\nstates 1\nstarts\nends\nstep 0 f 0 " + word
            self.assertEqual(read_machine(text)[4][0][2], (limit,))

    def test_missing_and_doubled_lines(self):
        lines = ["letters ab", "states 2", "starts 0 1", "ends", STEP]
        for count in (1, 2, 3):
            self.check("\n".join(lines[:count]), count + 1)
        for k in range(4):
            self.check("\n".join(lines[:k] + lines[k + 1:]), k + 1)
            self.check("\n".join(lines[:k + 1] + lines[k:]), k + 2)
        for k in range(4):
            self.check("\n".join(lines[:k] + [lines[k + 1], lines[k]] + lines[k + 2:]), k + 1)
        self.check("\n".join(lines) + "\n", 6)
        self.check("\n".join(lines[:4]) + "\n", 5)
        self.check("\n".join(lines[:2] + [""] + lines[2:]), 3)
        self.check("", 1)
        self.check("\n", 1)
        self.check("\n" * 4000, 1)

    def test_matters_of_the_whole(self):
        for text in ["letters ab\nstates 0\nstarts\nends", "letters ab\nstates 2\nstarts 2\nends",
                     "letters ab\nstates 2\nstarts\nends 2", "letters ab\nstates 2\nstarts 1 0\nends",
                     "letters ab\nstates 2\nstarts 0 0\nends", "letters ab\nstates 2\nstarts\nends 1 0"]:
            self.check(text, 5)
            self.check(text + "\nstep 0 a 1", 6)
            # a line that cannot stand is told first
            self.check(text + "\nstep 0 a 1\nstep", 6)
        for step in ["step 2 a 0", "step 0 a 2", "step 0 c 0", "step 0 a 0 cnever", "step 0 a 0 .from0 zfrom1to2"]:
            self.check(HEAD + "\n" + step, 6)
            self.check(HEAD + "\n" + step + "\n" + STEP, 7)

    def test_bent_in_one_place(self):
        signs = "ab012 \n.Acerotvz"
        machine = ("ab", 12, (0, 11), (1,), ((10, "a", (("", (0, True), (1, False)), ("b", (1, False), (20, True)),
                                                       ("a", None, None)), 1), (0, "b", (), 2)))
        for text in bent(machine_text(machine), signs):
            self.assertEqual(told(read_machine, text), machine_by_words(text), text)

    def test_words_moved(self):
        draw = random.Random(123)
        for _ in range(1500):
            machine = wide_machine(draw, "bc", 12, 4)
            lines = [line.split(" ") for line in machine_text(machine).split("\n")]
            k, other = draw.randrange(len(lines)), draw.randrange(len(lines))
            word = draw.choice(lines[other] + ["", "never", "0", "00", "c", "ab"])
            at = draw.randrange(len(lines[k]) + 1)
            lines[k][at:at + draw.randrange(2)] = [word]
            text = "\n".join(" ".join(words) for words in lines)
            self.assertEqual(told(read_machine, text), machine_by_words(text), text)


class ErrorsTest(unittest.TestCase):
    def test_no_row(self):
        for thing in anything() + spoiled(ROW) + [thing for thing in filled(ROW) if not is_row(thing)]:
            with self.assertRaises(NoRow):
                row_text(thing)

    def test_no_machine(self):
        for thing in anything() + spoiled(SOON) + [thing for thing in filled(SOON) if not is_machine(thing)]:
            with self.assertRaises(NoMachine):
                machine_text(thing)

    def test_things_that_are_no_strings(self):
        things = [thing for thing in anything() if not isinstance(thing, str)]
        for thing in things + [ROW, SOON, b"grain 1", ["grain 1"], ("grain 1",), 1]:
            for call in [read_row, read_machine]:
                with self.assertRaises(NoText) as caught:
                    call(thing)
                self.assertEqual(caught.exception.line, 1)

    def test_other_strings(self):
        for thing in anything():
            if isinstance(thing, str):
                for call in [read_row, read_machine]:
                    self.assertEqual(told(call, thing), 1)
        # each is no text of the other kind
        self.assertEqual(told(read_row, machine_text(SOON)), 1)
        self.assertEqual(told(read_machine, row_text(ROW)), 1)

    def test_attributes(self):
        with self.assertRaises(NoText) as caught:
            read_row("grain 1\na")
        self.assertEqual(vars(caught.exception), {"line": 2})


class OwnershipTest(unittest.TestCase):
    def test_arguments_are_as_before_and_results_equal(self):
        before = repr((WIDE, FINE))
        self.assertEqual([row_text(FINE), machine_text(WIDE)], [row_text(FINE), machine_text(WIDE)])
        self.assertEqual(repr((WIDE, FINE)), before)
        self.assertEqual(read_machine(HEAD), read_machine(HEAD))

    def test_by_names(self):
        self.assertEqual(read_row(text=row_text(row=ROW)), ROW)
        self.assertEqual(read_machine(text=machine_text(machine=WIDE)), WIDE)


if __name__ == "__main__":
    unittest.main()
