"""Each name of the interface is defined in its file, with its arguments."""

import importlib
import inspect
import unittest

FUNCTIONS = {
    "spec": {
        "is_expression": "value", "depth": "expression", "used": "expression", "known": "name",
    },
    "founded": {"emptyable": "spec", "order": "spec", "fault": "spec"},
    "spectext": {"spec_text": "spec", "spec_of": "text"},
    "structure": {
        "size_of": "structure", "labels_of": "structure", "key_of": "structure", "is_standard": "structure",
        "is_structure": "spec expression value labelled", "one_form": "structure",
    },
    "series": {
        "pairs": "first second labelled", "rows": "counts least most labelled", "sets": "counts least most labelled",
        "rings": "counts least most labelled", "by_members": "counts word members labelled",
        "sets_undone": "counts labelled",
    },
    "counts": {
        "labelled_counts": "spec name most", "unlabelled_counts": "spec name most",
        "counts_of": "spec expression most labelled", "rigid_counts": "spec name most",
        "member_counts": "spec name most labelled",
    },
    "erase": {
        "renamed": "structure names", "on_labels": "structure labels", "standard": "structure", "erased": "structure",
        "labelled_from": "structure",
    },
    "symmetry": {"symmetries": "structure", "labellings": "structure", "all_labellings": "structure"},
    "listing": {
        "labelled_list": "spec name size", "unlabelled_list": "spec name size", "labelled_on": "spec expression labels",
        "unlabelled_of": "spec expression size", "next_one": "spec name structure",
    },
    "members": {"sets_from": "counts members size first"},
    "turns": {"turns_from": "counts row size", "rings_before": "counts row size"},
    "rank": {
        "structure_at": "spec name size index labelled", "window": "spec name size first many labelled",
        "index_of": "spec name structure", "labelled_at": "spec expression labels index",
        "unlabelled_at": "spec expression size index", "index_in": "spec expression structure",
    },
    "subsets": {"subset_at": "size members index", "subset_index": "size subset"},
    "draw": {
        "index_by_digits": "count digits", "telling_rows": "count most", "draw": "spec name size digits labelled",
        "draws": "spec name size many digits labelled",
    },
    "shapes": {"shapes": "n", "shape_of": "images", "weight": "shape"},
    "cycleindex": {"kept": "spec name shape", "cycle_sum": "spec name n"},
    "burnside": {"orbits": "spec name n", "coloured": "spec name n colours", "inventory": "spec name contents"},
    "changed": {"marked": "spec", "replaced": "spec expression"},
    "quotient": {
        "quotient_of": "top bottom", "added": "first second", "taken": "first second", "multiplied": "first second",
        "terms": "quotient count", "rule": "quotient",
    },
    "regular": {
        "is_regular": "spec", "alike": "first name second other", "quotient": "spec name",
        "parting_size": "first name second other",
    },
    "carry": {"carried": "first name second other structure"},
}
METHODS = {"__init__": "self equations", "names": "self", "expression": "self name"}


class Interface(unittest.TestCase):
    def test_functions(self):
        for file, functions in FUNCTIONS.items():
            module = importlib.import_module("speciesmill." + file)
            for name, arguments in functions.items():
                function = getattr(module, name)
                self.assertEqual(function.__module__, "speciesmill." + file)
                self.assertTrue(inspect.isfunction(function), name)
                self.assertEqual(list(inspect.signature(function).parameters), arguments.split(), name)

    def test_the_methods_of_a_specification(self):
        from speciesmill.spec import Spec

        self.assertEqual(Spec.__module__, "speciesmill.spec")
        for name, arguments in METHODS.items():
            self.assertIn(name, vars(Spec))
            self.assertEqual(list(inspect.signature(vars(Spec)[name]).parameters), arguments.split(), name)


if __name__ == "__main__":
    unittest.main()
