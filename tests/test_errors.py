"""Point 4 and the interface of sinceclocks.errors."""

import inspect
import unittest

from sinceclocks import errors

PLAIN = ["NoRow", "NoMachine", "NoNumber", "NoLetter", "NoLetters", "NoBound", "NoLook", "NoCount", "NoMost",
         "NoMachines", "NoTold", "NoGrain", "NoWait"]


class ErrorsTest(unittest.TestCase):
    def test_base_is_direct_subclass_of_value_error(self):
        self.assertEqual(errors.SinceError.__bases__, (ValueError,))

    def test_each_error_is_direct_subclass_of_the_base(self):
        for name in PLAIN + ["NoText"]:
            with self.subTest(name):
                self.assertEqual(getattr(errors, name).__bases__, (errors.SinceError,))

    def test_no_other_errors(self):
        found = [name for name, thing in vars(errors).items() if inspect.isclass(thing)]
        self.assertEqual(sorted(found), sorted(PLAIN + ["NoText", "SinceError"]))

    def test_all_are_defined_here(self):
        for name in PLAIN + ["NoText", "SinceError"]:
            self.assertEqual(getattr(errors, name).__module__, "sinceclocks.errors")

    def test_plain_errors_have_no_attributes(self):
        for name in PLAIN:
            with self.subTest(name):
                self.assertEqual(vars(getattr(errors, name)("so")), {})

    def test_no_text_tells_its_line(self):
        error = errors.NoText(7)
        self.assertEqual(error.line, 7)
        self.assertEqual(errors.NoText(line=1).line, 1)
        self.assertEqual(vars(error), {"line": 7})


if __name__ == "__main__":
    unittest.main()
