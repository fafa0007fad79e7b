"""The examples of the interface, as printed: each file of the folder examples is one section of it."""

import pathlib
import unittest

from looksleft import errors

FOLDER = pathlib.Path(__file__).parent / "examples"
NAMES = ["trees", "stores", "running", "books", "looks", "pictures", "histories", "ahead", "rows", "needs", "later",
         "come", "reasons", "shown", "pasts", "whole", "clocks", "partly", "balance", "tables", "asks", "desk", "journal"]


def steps(text):
    """The tuples of a statement and what is printed for it."""
    found = []
    for line in text.splitlines():
        if line.startswith(">>> "):
            found.append([line[4:], ""])
        else:
            found[-1][1] = line
    return [tuple(step) for step in found]


class TestExamples(unittest.TestCase):

    def test_all_sections_are_there(self):
        self.assertEqual(sorted(path.stem for path in FOLDER.glob("*.txt")), sorted(NAMES))

    def test_examples(self):
        for name in NAMES:
            names = {}
            for statement, printed in steps((FOLDER / f"{name}.txt").read_text(encoding="ascii")):
                with self.subTest(section=name, statement=statement):
                    if printed.startswith("raises "):
                        self.check_error(statement, printed[len("raises "):], names)
                    elif printed:
                        self.assertEqual(repr(eval(statement, names)), printed)
                    else:
                        exec(statement, names)

    def check_error(self, statement, told, names):
        error, _, values = told.partition("(")
        with self.assertRaises(getattr(errors, error)) as caught:
            eval(statement, names)
        self.assertEqual(caught.exception.__class__.__name__, error)
        self.assertEqual(tuple(vars(caught.exception).values()), eval("(" + values[:-1] + ",)"))


if __name__ == "__main__":
    unittest.main()
