import copy
import pickle
import unittest

from dialforest import errors

FIELDS = {
    "InvalidForest": "path",
    "InvalidLabel": "label",
    "InvalidRun": "position",
    "InvalidSelection": "name",
    "InvalidNumbers": "path",
    "InvalidPrices": "path",
    "InvalidTable": "label",
    "InvalidOrder": "order",
    "InvalidText": "line",
    "TooLarge": "limit",
    "InvalidRank": "rank",
    "InvalidEdit": "path",
    "NotRemovable": "label",
    "NothingRemains": "length",
    "Unreachable": "reason",
    "NotRoot": "label",
    "NotChild": "label",
    "WouldLoop": "label",
    "NotClearing": "length",
    "NothingToUndo": "action",
}
STATE = ("NotRemovable", "NothingRemains", "Unreachable", "NotRoot", "NotChild", "WouldLoop", "NotClearing")
LOOKUP = ("NothingToUndo",)
BASES = {"DialError": ValueError, "DialStateError": RuntimeError, "DialLookupError": LookupError}


def base_of(name):
    if name in STATE:
        return "DialStateError"
    if name in LOOKUP:
        return "DialLookupError"
    return "DialError"


class Errors(unittest.TestCase):
    def test_each_class_stores_its_field_under_its_name(self):
        values = [(), (0,), (3, "shown"), 0, 61, -1, "required", "selection", None, True, [1], {}, object()]
        for name, field in FIELDS.items():
            for value in values:
                with self.subTest(name=name, value=value):
                    error = getattr(errors, name)(value)
                    self.assertIs(getattr(error, field), value)
                    self.assertEqual(list(vars(error)), [field])

    def test_each_class_takes_exactly_one_field(self):
        for name in FIELDS:
            with self.subTest(name=name):
                with self.assertRaises(TypeError):
                    getattr(errors, name)()
                with self.assertRaises(TypeError):
                    getattr(errors, name)(1, 2)

    def test_each_class_has_its_base_and_the_built_in_class_of_the_base(self):
        for name in FIELDS:
            with self.subTest(name=name):
                base = base_of(name)
                self.assertTrue(issubclass(getattr(errors, name), getattr(errors, base)))
                self.assertTrue(issubclass(getattr(errors, name), BASES[base]))

    def test_the_bases_are_subclasses_of_their_built_in_class_only(self):
        for name, builtin in BASES.items():
            base = getattr(errors, name)
            for other in BASES.values():
                self.assertEqual(issubclass(base, other), other is builtin)

    def test_none_is_a_subclass_of_another_apart_from_the_bases(self):
        names = list(FIELDS) + list(BASES)
        for name in names:
            for other in names:
                with self.subTest(name=name, other=other):
                    wanted = name == other or (name in FIELDS and other == base_of(name))
                    self.assertEqual(issubclass(getattr(errors, name), getattr(errors, other)), wanted)

    def test_each_class_is_defined_in_errors(self):
        for name in list(FIELDS) + list(BASES):
            self.assertEqual(getattr(errors, name).__module__, "dialforest.errors")

    def test_an_error_is_raised_and_caught_by_its_bases(self):
        for name, field in FIELDS.items():
            base = base_of(name)
            for caught in (getattr(errors, name), getattr(errors, base), BASES[base]):
                with self.assertRaises(caught) as context:
                    raise getattr(errors, name)((1, "up"))
                self.assertEqual(getattr(context.exception, field), (1, "up"))

    def test_a_copy_of_an_error_keeps_its_field(self):
        for name, field in FIELDS.items():
            error = getattr(errors, name)((1, "up"))
            for other in (copy.copy(error), pickle.loads(pickle.dumps(error))):
                self.assertEqual(getattr(other, field), (1, "up"))


if __name__ == "__main__":
    unittest.main()
