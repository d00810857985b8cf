import inspect
import unittest

from dialforest import foresttexts, forests

SIGNATURES = {
    forests: {
        "make_node": "(size, shown, allowed, *, weight=1, parent=None, down=0, up=0)",
        "validate": "(forest)",
        "is_forest": "(value)",
        "require_label": "(forest, label)",
        "roots": "(forest)",
        "children": "(forest, label)",
        "neighbours": "(forest, label)",
        "path_to_root": "(forest, label)",
        "subtree": "(forest, label)",
        "relabel": "(forest, order)",
        "mirror": "(forest)",
    },
    foresttexts: {
        "format_forest": "(forest)",
        "parse_forest": "(text)",
    },
}


class Interface(unittest.TestCase):
    def test_names_and_parameters(self):
        for module, names in SIGNATURES.items():
            for name, signature in names.items():
                with self.subTest(name=name):
                    self.assertEqual(str(inspect.signature(getattr(module, name))), signature)

    def test_each_function_is_defined_in_its_file(self):
        for module, names in SIGNATURES.items():
            for name in names:
                with self.subTest(name=name):
                    self.assertTrue(inspect.isfunction(getattr(module, name)))
                    self.assertEqual(getattr(module, name).__module__, module.__name__)


if __name__ == "__main__":
    unittest.main()
