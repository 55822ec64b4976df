"""The examples of the document, word for word, as examples.txt has them, and those of README.md."""

import doctest
import importlib
import pathlib
import unittest

from kindtells import errors

HERE = pathlib.Path(__file__).parent
MODULES = (
    "errors", "checks", "papers", "leads", "manners", "told", "along", "check_along", "families", "workers", "places",
    "form_lists", "forms", "patterns", "blocks", "rankings", "ranks", "filling", "check_families", "ladder",
    "check_ladder", "kinds", "closed", "agreed", "check_agreed", "merged", "made", "check_made", "programs",
    "check_programs")


def examples(text):
    """Of each example its module, what is asked and what it must tell, which is empty behind an assignment."""
    found = []
    name = ""
    for line in text.splitlines():
        if line.startswith(">>> "):
            found.append((name, line[4:], ""))
        elif line.startswith("## "):
            name = line[len("## kindtells/"):-len(".py")]
        elif line:
            name, asked, told = found.pop()
            assert told == "", line
            found.append((name, asked, line))
    return found


def names():
    space = {}
    for name in MODULES:
        space.update(vars(importlib.import_module("kindtells." + name)))
    return space


class Examples(unittest.TestCase):
    def test_examples(self):
        space = names()
        found = examples((HERE / "examples.txt").read_text())
        self.assertEqual(len(found), 141)
        imported = ""
        for name, asked, told in found:
            if name != imported:
                # An example before may have given one of these names to something else.
                space.update(vars(importlib.import_module("kindtells." + name)))
                imported = name
            with self.subTest(asked):
                self.hold(asked, told, space)

    def hold(self, asked, told, space):
        if told == "":
            exec(asked, space)
        elif told.startswith("raises "):
            error = eval(told[len("raises "):], vars(errors).copy())
            with self.assertRaises(type(error)) as caught:
                eval(asked, space)
            self.assertIs(type(caught.exception), type(error))
            self.assertEqual(vars(caught.exception), vars(error))
        else:
            self.assertEqual(repr(eval(asked, space)), told)

    def test_readme(self):
        tried = doctest.testfile(str(HERE.parent / "README.md"), module_relative=False)
        self.assertEqual([tried.failed, tried.attempted > 5], [0, True])


if __name__ == "__main__":
    unittest.main()
