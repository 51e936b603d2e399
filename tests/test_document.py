"""The examples as the document prints them, and the interface."""

import doctest
import inspect
import unittest

from sinceclocks import comparing, counting, joining, looks, machines, rows, seeing, telling, texts, watch, watching

EXAMPLES = r'''
>>> from sinceclocks.machines import after, is_machine, lets
>>> from sinceclocks.rows import is_row, since
>>> soon = ("ab", 2, (0,), (1,), ((0, "a", (), 0), (0, "b", (("a", (0, False), (2, True)),), 1)))
>>> row = (10, (("a", 0), ("a", 15), ("b", 34)))
>>> [lets(soon, row), after(soon, (10, (("a", 0), ("b", 20)))), [since(row, 2, x) for x in ["a", "b", ""]], is_row((1, (("a", 2), ("a", 1))))]
[True, [], [19, None, 34], False]

>>> from sinceclocks.looks import came, later, look
>>> here = look((10, (("a", 3), ("b", 8), ("a", 21))), "abc", 2)
>>> [here, came(here, "abc", "b"), later(((0, 0), None), 1)]
[((3, 0), (0, 0), (1, 1), None), ((3, 0), (0, 0), (0, 0), None), [((0, 0), None), ((0, 1), None), ((1, 0), None), ((2, 0), None)]]
>>> came(((1, 2), (0, 1), (0, 2)), "ab", "a")
((1, 1), (0, 0), (0, 1))

>>> from sinceclocks.comparing import compared, first_row, is_table, parted, within
>>> from sinceclocks.machines import lets
>>> soon = ("ab", 2, (0,), (1,), ((0, "a", (), 0), (0, "b", (("a", (0, False), (2, True)),), 1)))
>>> late = ("ab", 2, (0,), (1,), ((0, "a", (), 0), (0, "b", (("a", (0, False), (2, False)),), 1)))
>>> row = within(late, soon)
>>> [within(soon, late), len(row[1]), lets(late, row), lets(soon, row), len(first_row(soon)[1]), compared(soon, late)[0], is_table(soon, late, [])]
[None, 2, True, False, 2, 'within', False]

>>> from sinceclocks.joining import both, either, is_single, single, turned
>>> from sinceclocks.machines import lets
>>> two = ("a", 1, (0,), (0,), ((0, "a", (("", (0, False), (1, False)),), 0), (0, "a", (("", (1, False), None),), 0)))
>>> once = ("a", 1, (0,), (0,), ((0, "a", (("a", None, None),), 0),))
>>> row = (1, (("a", 0), ("a", 1)))
>>> [is_single(two), lets(single(two), row), lets(turned(two), row), lets(both(two, once), row), lets(either(two, once), row)]
[False, True, False, False, True]

>>> from sinceclocks.counting import how_many
>>> spaced = ("a", 1, (0,), (0,), ((0, "a", (("a", None, None),), 0), (0, "a", (("a", (2, False), None),), 0)))
>>> [how_many(spaced, 2, 3), how_many(spaced, 0, 3)]
[3, 1]

>>> from sinceclocks.watching import decided, verdict
>>> early = ("a", 1, (0,), (0,), ((0, "a", (("", (0, False), (1, False)),), 0),))
>>> [verdict(early, (1, ())), verdict(early, (2, (("a", 3),))), decided(early, (2, (("a", 1), ("a", 3))))]
['open', 'no', 2]

>>> from sinceclocks.telling import left, next_row
>>> early = ("a", 1, (0,), (0,), ((0, "a", (("", (0, False), (1, False)),), 0),))
>>> spaced = ("a", 1, (0,), (0,), ((0, "a", (("a", None, None),), 0), (0, "a", (("a", (2, False), None),), 0)))
>>> [left([early, spaced], [((1, (("a", 0), ("a", 1))), True)]), next_row([early, spaced], [])[1]]
[[0], 1]

>>> from sinceclocks.watch import Watch
>>> early = ("a", 1, (0,), (0,), ((0, "a", (("", (0, False), (1, False)),), 0),))
>>> watch = Watch(early, 2)
>>> [watch.come("a", 1), watch.hopes(1), watch.hopes(2), watch.come("a", 2), watch.back(), watch.row()]
['open', ['a'], [], 'no', True, (2, (('a', 1),))]

>>> from sinceclocks.texts import machine_text, read_row
>>> early = ("a", 1, (0,), (0,), ((0, "a", (("", (0, False), (1, False)),), 0),))
>>> [machine_text(early), read_row("grain 2\na 1")]
['letters a\nstates 1\nstarts 0\nends 0\nstep 0 a 0 .from0to1', (2, (('a', 1),))]

>>> from sinceclocks.texts import machine_text
>>> wide = ("ab", 2, (0, 1), (), ((0, "a", (("", (0, True), None), ("b", (1, False), (2, True)), ("a", None, None)), 1),))
>>> machine_text(wide)
'letters ab\nstates 2\nstarts 0 1\nends\nstep 0 a 1 .over0 bfrom1under2 anever'

>>> from sinceclocks.machines import lets
>>> from sinceclocks.seeing import alike, fitting, picture
>>> row, other = (2, (("a", 1), ("a", 4))), (3, (("a", 1), ("a", 5)))
>>> [alike(row, row, 2), alike(row, other, 2), alike(row, other, 1), lets(picture(row, "a", 1), other)]
[True, False, True, True]
>>> [fitting([(row, True), (other, False)], 2)[0], fitting([(other, False), (row, True)], 1)]
['machine', ('rows', 1, 0)]

>>> from sinceclocks.watching import silence, windows
>>> early = ("a", 1, (0,), (0,), ((0, "a", (("", (0, False), (1, False)),), 0),))
>>> apart = ("a", 1, (0,), (0,), ((0, "a", (("a", None, None),), 0), (0, "a", (("a", (0, False), (1, True)),), 0), (0, "a", (("a", (1, True), None),), 0)))
>>> [windows(early, (2, (("a", 1),)), "a"), windows(apart, (2, (("a", 1),)), "a"), silence(early, (2, (("a", 1),)))]
[[((0, False), (1, False))], [((0, False), (2, True)), ((2, True), None)], None]
'''

INTERFACE = [
    (rows, "is_row", ["thing"]), (rows, "since", ["row", "i", "x"]),
    (machines, "is_machine", ["thing"]), (machines, "after", ["machine", "row"]),
    (machines, "lets", ["machine", "row"]),
    (looks, "look", ["row", "letters", "m"]), (looks, "later", ["look", "m"]),
    (looks, "came", ["look", "letters", "a"]),
    (comparing, "first_row", ["machine"]), (comparing, "within", ["one", "other"]),
    (comparing, "parted", ["one", "other"]), (comparing, "compared", ["one", "other"]),
    (comparing, "is_table", ["one", "other", "thing"]),
    (joining, "is_single", ["machine"]), (joining, "single", ["machine"]), (joining, "turned", ["machine"]),
    (joining, "both", ["one", "other"]), (joining, "either", ["one", "other"]),
    (counting, "how_many", ["machine", "n", "most"]),
    (watching, "verdict", ["machine", "row"]), (watching, "decided", ["machine", "row"]),
    (watching, "windows", ["machine", "row", "a"]), (watching, "silence", ["machine", "row"]),
    (telling, "left", ["machines", "told"]), (telling, "next_row", ["machines", "told"]),
    (texts, "row_text", ["row"]), (texts, "machine_text", ["machine"]),
    (texts, "read_row", ["text"]), (texts, "read_machine", ["text"]),
    (seeing, "alike", ["row", "other", "m"]), (seeing, "picture", ["row", "letters", "m"]),
    (seeing, "fitting", ["told", "m"]),
]
METHODS = [("come", ["a", "wait"]), ("verdict", []), ("states", []), ("row", []), ("hopes", ["wait"]), ("back", [])]
SIGNS = ["__getitem__", "__contains__", "__len__", "__iter__", "__eq__", "__ne__"]


class DocumentTest(unittest.TestCase):
    def test_examples(self):
        examples = doctest.DocTestParser().get_doctest(EXAMPLES, {}, "DOC.md", "DOC.md", 0)
        self.assertEqual(len(examples.examples), 50)
        told = []
        results = doctest.DocTestRunner(verbose=False).run(examples, out=told.append)
        self.assertEqual((results.attempted, results.failed), (50, 0), "".join(told))

    def test_interface(self):
        for module, name, arguments in INTERFACE:
            with self.subTest(name):
                function = getattr(module, name)
                self.assertTrue(inspect.isfunction(function))
                self.assertEqual(function.__module__, module.__name__)
                self.check_arguments(function, arguments)

    def check_arguments(self, function, arguments):
        parameters = inspect.signature(function).parameters.values()
        self.assertEqual([each.name for each in parameters], arguments)
        for each in parameters:
            self.assertIs(each.default, each.empty)
            self.assertEqual(each.kind, each.POSITIONAL_OR_KEYWORD)

    def test_interface_of_the_watch(self):
        self.assertTrue(inspect.isclass(watch.Watch))
        self.assertEqual(watch.Watch.__module__, "sinceclocks.watch")
        self.check_arguments(watch.Watch, ["machine", "grain"])
        for name, arguments in METHODS:
            with self.subTest(name):
                self.check_arguments(vars(watch.Watch)[name], ["self"] + arguments)
        for name in SIGNS:
            self.assertTrue(inspect.isfunction(vars(watch.Watch)[name]), name)


if __name__ == "__main__":
    unittest.main()
