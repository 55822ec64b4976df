"""The interface: each name is defined in its file, with the arguments that are told, by place and by name."""

import importlib
import inspect
import unittest

FUNCTIONS = {
    "checks": {
        "is_integer": ["value"], "is_within": ["value", "least", "most"], "are_numbers": ["value"],
        "is_lot": ["value", "many"], "first_twice": ["values"]},
    "papers": {"fixed": ["value"]},
    "leads": {"idle": ["things"]},
    "manners": {
        "is_of": ["lead", "manner"], "leads": ["manner", "begin", "into"], "many_leads": ["manner", "begin", "into"],
        "few_leads": ["manner", "things"]},
    "told": {"inputs": ["things", "places"]},
    "along": {"parting_row": ["told", "lead"], "keeps": ["told", "manner"], "kept": ["told", "manner"]},
    "check_along": {"shows_kept": ["told", "manner", "value"]},
    "families": {"family_kept": ["family", "manner"]},
}
CLASSES = {
    "papers": {
        "Paper": (["word", "parts"], {"__eq__": ["other"], "__bool__": []}),
        "Denial": (["word", "parts"], {"__eq__": ["other"], "__bool__": []})},
    "leads": {
        "Lead": (["into", "row"], {
            "__eq__": ["other"], "__str__": [], "read": ["text"], "of": ["values"], "then": ["other"]})},
    "told": {
        "Told": (["things", "places", "tells"], {
            "__eq__": ["other"], "__str__": [], "read": ["text"], "at": ["row"], "swapped": ["order"]})},
    "along": {"Kept": ([], {}), "Parting": (["lead", "row"], {})},
    "families": {"Family": (["members"], {"__eq__": ["other"], "member": ["things"]})},
    "workers": {
        "Worker": (None, {"__eq__": ["other"], "at": ["row", "things"], "over": ["things"]}),
        "Place": (["places", "place"], {"__eq__": ["other"], "at": ["row", "things"], "over": ["things"]}),
        "Thing": (["places", "thing"], {"__eq__": ["other"], "at": ["row", "things"], "over": ["things"]})},
}


def module(name):
    return importlib.import_module("kindtells." + name)


def arguments(call):
    return list(inspect.signature(call).parameters)


class Interface(unittest.TestCase):
    def test_functions(self):
        for name, functions in FUNCTIONS.items():
            for function, expected in functions.items():
                call = getattr(module(name), function)
                self.assertEqual([call.__module__, arguments(call)], ["kindtells." + name, expected])

    def test_classes(self):
        for name, classes in CLASSES.items():
            for word, (expected, methods) in classes.items():
                of = getattr(module(name), word)
                self.assertEqual(of.__module__, "kindtells." + name)
                if expected is not None:
                    self.assertEqual(arguments(of), expected)
                for method, rest in methods.items():
                    self.hold_method(of, method, rest)

    def hold_method(self, of, method, rest):
        self.assertIn(method, vars(of), of)
        found = arguments(getattr(of, method))
        self.assertEqual(found if isinstance(vars(of)[method], (staticmethod, classmethod)) else found[1:], rest)


if __name__ == "__main__":
    unittest.main()
