"""The examples of the document, word for word, as examples.txt has them, and those of README.md."""

import doctest
import importlib
import pathlib
import unittest

from kindtells import errors

HERE = pathlib.Path(__file__).parent
MODULES = (
    "errors", "checks", "papers", "leads", "manners", "told", "along", "check_along", "families", "workers")


def examples(text):
    """Pairs of what is asked and what it must tell, which is empty behind an assignment."""
    found = []
    for line in text.splitlines():
        if line.startswith(">>> "):
            found.append((line[4:], ""))
        elif line and not line.startswith("## "):
            asked, told = found.pop()
            assert told == "", line
            found.append((asked, line))
    return found


def names():
    space = {}
    for name in MODULES:
        space.update(vars(importlib.import_module("kindtells." + name)))
    return space


class Examples(unittest.TestCase):
    def test_examples(self):
        space = names()
        found = examples((HERE / "examples.txt").read_text())
        self.assertEqual(len(found), 37)
        for asked, told in found:
            with self.subTest(asked):
                self.hold(asked, told, space)

    def hold(self, asked, told, space):
        if told == "":
            exec(asked, space)
        elif told.startswith("raises "):
            error = eval(told[len("raises "):], vars(errors).copy())
            with self.assertRaises(type(error)) as caught:
                eval(asked, space)
            self.assertIs(type(caught.exception), type(error))
            self.assertEqual(vars(caught.exception), vars(error))
        else:
            self.assertEqual(repr(eval(asked, space)), told)

    def test_readme(self):
        tried = doctest.testfile(str(HERE.parent / "README.md"), module_relative=False)
        self.assertEqual([tried.failed, tried.attempted > 5], [0, True])


if __name__ == "__main__":
    unittest.main()
