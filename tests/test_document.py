"""The examples as the document prints them, and the interface."""

import doctest
import inspect
import unittest

from sinceclocks import looks, machines, rows

EXAMPLES = '''
>>> from sinceclocks.machines import after, is_machine, lets
>>> from sinceclocks.rows import is_row, since
>>> soon = ("ab", 2, (0,), (1,), ((0, "a", (), 0), (0, "b", (("a", (0, False), (2, True)),), 1)))
>>> row = (10, (("a", 0), ("a", 15), ("b", 34)))
>>> [lets(soon, row), after(soon, (10, (("a", 0), ("b", 20)))), [since(row, 2, x) for x in ["a", "b", ""]], is_row((1, (("a", 2), ("a", 1))))]
[True, [], [19, None, 34], False]

>>> from sinceclocks.looks import came, later, look
>>> here = look((10, (("a", 3), ("b", 8), ("a", 21))), "abc", 2)
>>> [here, came(here, "abc", "b"), later(((0, 0), None), 1)]
[((3, 0), (0, 0), (1, 1), None), ((3, 0), (0, 0), (0, 0), None), [((0, 0), None), ((0, 1), None), ((1, 0), None), ((2, 0), None)]]
>>> came(((1, 2), (0, 1), (0, 2)), "ab", "a")
((1, 1), (0, 0), (0, 1))
'''

INTERFACE = [
    (rows, "is_row", ["thing"]), (rows, "since", ["row", "i", "x"]),
    (machines, "is_machine", ["thing"]), (machines, "after", ["machine", "row"]),
    (machines, "lets", ["machine", "row"]),
    (looks, "look", ["row", "letters", "m"]), (looks, "later", ["look", "m"]),
    (looks, "came", ["look", "letters", "a"]),
]


class DocumentTest(unittest.TestCase):
    def test_examples(self):
        examples = doctest.DocTestParser().get_doctest(EXAMPLES, {}, "DOC.md", "DOC.md", 0)
        self.assertEqual(len(examples.examples), 9)
        told = []
        results = doctest.DocTestRunner(verbose=False).run(examples, out=told.append)
        self.assertEqual((results.attempted, results.failed), (9, 0), "".join(told))

    def test_interface(self):
        for module, name, arguments in INTERFACE:
            with self.subTest(name):
                function = getattr(module, name)
                self.assertTrue(inspect.isfunction(function))
                self.assertEqual(function.__module__, module.__name__)
                parameters = inspect.signature(function).parameters.values()
                self.assertEqual([each.name for each in parameters], arguments)
                for each in parameters:
                    self.assertIs(each.default, each.empty)
                    self.assertEqual(each.kind, each.POSITIONAL_OR_KEYWORD)


if __name__ == "__main__":
    unittest.main()
