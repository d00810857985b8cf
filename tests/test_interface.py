import inspect
import unittest

from dialforest import counts, edits, foresttexts, forests, joins, lengths, positions, preparation, ranks, reach, runs
from dialforest import session

SIGNATURES = {
    forests: {
        "make_node": "(size, shown, allowed, *, weight=1, parent=None, down=0, up=0)",
        "validate": "(forest)",
        "is_forest": "(value)",
        "require_label": "(forest, label)",
        "roots": "(forest)",
        "children": "(forest, label)",
        "neighbours": "(forest, label)",
        "path_to_root": "(forest, label)",
        "subtree": "(forest, label)",
        "relabel": "(forest, order)",
        "mirror": "(forest)",
    },
    foresttexts: {
        "format_forest": "(forest)",
        "parse_forest": "(text)",
    },
    runs: {
        "check_run": "(forest, run)",
        "is_run": "(forest, value)",
        "shown_after": "(forest, run)",
        "removable": "(forest, *, run=())",
        "run_weight": "(forest, run)",
        "remaining": "(forest, run)",
    },
    reach: {
        "reach_table": "(forest, *, required=(), forbidden=())",
        "greatest_weight": "(forest, *, required=(), forbidden=())",
        "best_run": "(forest, *, required=(), forbidden=())",
        "traced_run": "(forest, *, required=(), forbidden=())",
        "check_reach_table": "(forest, table, *, required=(), forbidden=())",
    },
    preparation: {
        "prepared": "(forest, numbers)",
        "preparation_table": "(forest, *, prices=None)",
        "least_price": "(forest, *, prices=None)",
        "least_preparation": "(forest, *, prices=None)",
        "check_preparation_table": "(forest, table, *, prices=None)",
    },
    counts: {
        "count_table": "(forest)",
        "count_runs": "(forest)",
        "check_count_table": "(forest, table)",
    },
    positions: {
        "rerooted": "(forest, label)",
        "position_counts": "(forest, label)",
        "edge_counts": "(forest, label)",
    },
    ranks: {
        "run_at": "(forest, rank)",
        "rank_of": "(forest, run)",
        "next_run": "(forest, run)",
    },
    lengths: {
        "length_counts": "(forest)",
    },
    joins: {
        "place_beside": "(forest, other)",
        "trees": "(forest)",
    },
    edits: {
        "apply_edit": "(forest, edit)",
        "affected": "(forest, edit)",
        "inverse": "(forest, edit)",
    },
}
METHODS = {
    runs.Play: {
        "__init__": "(self, forest)",
        "__eq__": "(self, other)",
        "__len__": "(self)",
        "remove": "(self, label)",
        "undo": "(self)",
        "run": "(self)",
        "shown": "(self)",
        "removable": "(self)",
        "weight": "(self)",
        "copy": "(self)",
    },
    session.Session: {
        "__init__": "(self, forest)",
        "__eq__": "(self, other)",
        "__len__": "(self)",
        "__str__": "(self)",
        "apply": "(self, edit)",
        "undo": "(self)",
        "forest": "(self)",
        "reach_table": "(self)",
        "preparation_table": "(self)",
        "count_table": "(self)",
        "greatest_weight": "(self)",
        "least_price": "(self)",
        "count_runs": "(self)",
        "work": "(self)",
        "edits": "(self)",
        "copy": "(self)",
    },
}
CONSTANTS = {
    forests: {"MOST_NODES": 60, "MOST_SIZE": 12, "MOST_WEIGHT": 10 ** 12},
    reach: {"MOST_BEST": 24},
    preparation: {"MOST_PRICE": 10 ** 12},
    ranks: {"MOST_RANKED": 16},
    lengths: {"MOST_LENGTHS": 24},
}


class Interface(unittest.TestCase):
    def test_names_and_parameters(self):
        for module, names in SIGNATURES.items():
            for name, signature in names.items():
                with self.subTest(name=name):
                    self.assertEqual(str(inspect.signature(getattr(module, name))), signature)

    def test_each_function_is_defined_in_its_file(self):
        for module, names in SIGNATURES.items():
            for name in names:
                with self.subTest(name=name):
                    self.assertTrue(inspect.isfunction(getattr(module, name)))
                    self.assertEqual(getattr(module, name).__module__, module.__name__)

    def test_each_method_is_defined_in_the_body_of_its_class(self):
        for owner, names in METHODS.items():
            for name, signature in names.items():
                with self.subTest(name=name):
                    self.assertTrue(inspect.isfunction(vars(owner).get(name)))
                    self.assertEqual(str(inspect.signature(vars(owner)[name])), signature)

    def test_each_class_is_defined_in_its_file(self):
        self.assertEqual(runs.Play.__module__, runs.__name__)
        self.assertEqual(session.Session.__module__, session.__name__)

    def test_constants(self):
        for module, names in CONSTANTS.items():
            for name, value in names.items():
                with self.subTest(name=name):
                    self.assertEqual(getattr(module, name), value)
                    self.assertIs(type(getattr(module, name)), int)


if __name__ == "__main__":
    unittest.main()
