"""The interface: each name is defined in its file, with the arguments that are told, by place and by name."""

import importlib
import inspect
import unittest

FUNCTIONS = {
    "checks": {
        "is_integer": ["value"], "is_within": ["value", "least", "most"], "are_numbers": ["value"],
        "is_lot": ["value", "many"], "first_twice": ["values"]},
    "papers": {"fixed": ["value"]},
    "leads": {"idle": ["things"]},
    "manners": {
        "is_of": ["lead", "manner"], "leads": ["manner", "begin", "into"], "many_leads": ["manner", "begin", "into"],
        "few_leads": ["manner", "things"]},
    "told": {"inputs": ["things", "places"]},
    "along": {"parting_row": ["told", "lead"], "keeps": ["told", "manner"], "kept": ["told", "manner"]},
    "check_along": {"shows_kept": ["told", "manner", "value"]},
    "families": {"family_kept": ["family", "manner"]},
    "places": {"all_known": ["places", "manner"], "known_of": ["told", "manner"], "is_turned": ["told"]},
    "form_lists": {"least_lots": ["lots"]},
    "forms": {
        "greatest_of": ["one", "other"], "least_of": ["one", "other"], "put": ["form", "forms"],
        "all_forms": ["places", "manner"], "form_of": ["told", "manner"], "bits_of": ["form"],
        "form_by_bits": ["places", "bits"]},
    "patterns": {"pattern_of": ["row"], "all_patterns": ["places"]},
    "blocks": {"blocks_of": ["told"], "left_over": ["told"], "put_blocks": ["blocks", "others"]},
    "rankings": {"ranking_of": ["row"], "all_rankings": ["places"]},
    "ranks": {"ranks_of": ["family"], "fits": ["ranks"], "form_of_ranks": ["ranks"]},
    "filling": {"filled": ["family", "manner", "things"]},
    "check_families": {
        "shows_family_kept": ["family", "manner", "value"], "shows_filled": ["family", "manner", "things", "value"]},
    "ladder": {"is_above": ["manner", "other", "things"], "kept_manners": ["told"], "ladder": ["told"]},
    "check_ladder": {"shows_ladder": ["told", "value"]},
    "kinds": {
        "kind_values": ["kind", "things"], "kind_keeps": ["told", "manner"], "kind_worker_of": ["told", "manner"]},
    "closed": {"closed": ["leads"]},
    "agreed": {
        "functions_along": ["leads", "places"], "many_along": ["leads", "places"], "leads_along": ["functions"],
        "manner_of": ["leads"], "compared_manners": ["one", "other"]},
    "check_agreed": {"shows_compared": ["one", "other", "value"]},
    "merged": {"merged": ["told", "one", "other"], "sort_of": ["told"]},
    "made": {"makes": ["told"], "made_of": ["functions", "wished"]},
    "check_made": {"shows_makes": ["told", "value"], "shows_made": ["functions", "wished", "value"]},
    "programs": {
        "what": ["told", "manner"], "family_what": ["family", "manner"],
        "many_kept": ["manner", "things", "places"], "kept_all": ["manner", "things", "places"]},
    "check_programs": {
        "shows_what": ["told", "manner", "value"], "shows_family_what": ["family", "manner", "value"]},
}
CLASSES = {
    "papers": {
        "Paper": (["word", "parts"], {"__eq__": ["other"], "__bool__": []}),
        "Denial": (["word", "parts"], {"__eq__": ["other"], "__bool__": []})},
    "leads": {
        "Lead": (["into", "row"], {
            "__eq__": ["other"], "__str__": [], "read": ["text"], "of": ["values"], "then": ["other"]})},
    "told": {
        "Told": (["things", "places", "tells"], {
            "__eq__": ["other"], "__str__": [], "read": ["text"], "at": ["row"], "swapped": ["order"]})},
    "along": {"Kept": ([], {}), "Parting": (["lead", "row"], {})},
    "families": {"Family": (["members"], {"__eq__": ["other"], "member": ["things"]})},
    "workers": {
        "Worker": (None, {"__eq__": ["other"], "at": ["row", "things"], "over": ["things"]}),
        "Place": (["places", "place"], {"__eq__": ["other"], "at": ["row", "things"], "over": ["things"]}),
        "Thing": (["places", "thing"], {"__eq__": ["other"], "at": ["row", "things"], "over": ["things"]})},
    "forms": {
        "Form": (["places", "lots"], {
            "__eq__": ["other"], "at": ["row", "things"], "over": ["things"], "is_of": ["manner"], "turned": []})},
    "blocks": {"Blocks": (["places", "chosen"], {"__eq__": ["other"], "at": ["row", "things"], "over": ["things"]})},
    "ranks": {"Ranks": (["places", "chosen"], {"__eq__": ["other"], "at": ["row", "things"], "over": ["things"]})},
    "filling": {"Filled": (["told"], {}), "Many": (["one", "other"], {}), "NoFill": (["row"], {})},
    "ladder": {"Ladder": (["manners", "partings"], {})},
    "kinds": {
        "Kind": (["shapes"], {"__eq__": ["other"]}),
        "KindTold": (["things", "kind", "into", "tells"], {"__eq__": ["other"], "at": ["value"]}),
        "KindWorker": (["manner", "kind", "into", "rows"], {"__eq__": ["other"], "over": ["things"]})},
    "agreed": {"Same": ([], {}), "Unlike": (["told"], {})},
    "made": {
        "Makes": (["name", "steps", "told"], {}), "IsPlace": (["place"], {}), "Made": (["steps"], {}),
        "Lot": (["functions"], {})},
    "programs": {"Program": (["worker"], {}), "Alone": ([], {})},
}


def module(name):
    return importlib.import_module("kindtells." + name)


def arguments(call):
    return list(inspect.signature(call).parameters)


class Interface(unittest.TestCase):
    def test_functions(self):
        for name, functions in FUNCTIONS.items():
            for function, expected in functions.items():
                call = getattr(module(name), function)
                self.assertEqual([call.__module__, arguments(call)], ["kindtells." + name, expected])

    def test_classes(self):
        for name, classes in CLASSES.items():
            for word, (expected, methods) in classes.items():
                of = getattr(module(name), word)
                self.assertEqual(of.__module__, "kindtells." + name)
                if expected is not None:
                    self.assertEqual(arguments(of), expected)
                for method, rest in methods.items():
                    self.hold_method(of, method, rest)

    def hold_method(self, of, method, rest):
        self.assertIn(method, vars(of), of)
        found = arguments(getattr(of, method))
        self.assertEqual(found if isinstance(vars(of)[method], (staticmethod, classmethod)) else found[1:], rest)


if __name__ == "__main__":
    unittest.main()
