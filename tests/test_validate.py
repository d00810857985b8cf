import copy
import unittest
from collections import namedtuple

from dialforest import forests
from dialforest.errors import InvalidForest
from dialforest.forests import is_forest, make_node, validate
from tests.samples import F, FIELDS, G, MIXED, SINGLE
from tests.samples import chain, forest_with, large_integers, no_integers, node_with, random_forests


class Checks(unittest.TestCase):
    def assert_forest(self, value):
        self.assertIsNone(validate(value))
        self.assertIs(is_forest(value), True)

    def assert_invalid(self, value, path):
        with self.assertRaises(InvalidForest) as context:
            validate(value)
        self.assertEqual(context.exception.path, path)
        self.assertIsInstance(context.exception.path, tuple)
        self.assertIs(is_forest(value), False)


class Sizes(Checks):
    def test_the_limits(self):
        self.assertEqual((forests.MOST_NODES, forests.MOST_SIZE, forests.MOST_WEIGHT), (60, 12, 10 ** 12))

    def test_forests_of_one_several_and_sixty_nodes(self):
        for many in (1, 2, 3, 30, 59, 60):
            self.assert_forest((SINGLE,) * many)
            self.assert_forest(chain(many))
            self.assert_forest(tuple(reversed([node_with(SINGLE, parent=many - k if k else None)
                                               for k in range(many)])))
        for forest in random_forests() + [G, F, MIXED]:
            self.assert_forest(forest)

    def test_no_node_and_more_than_sixty(self):
        self.assert_invalid((), ())
        self.assert_invalid((SINGLE,) * 61, ())
        self.assert_invalid(chain(61), ())
        self.assert_invalid((SINGLE,) * 100000, ())
        self.assert_invalid((None,) * 61, ())

    def test_values_that_are_no_tuples(self):
        for value in no_integers() + large_integers() + [0, 1]:
            if not isinstance(value, tuple):
                self.assert_invalid(value, ())
        self.assert_invalid(list(G), ())
        self.assert_invalid(dict(enumerate(G)), ())
        self.assert_invalid(iter(G), ())

    def test_a_tuple_of_a_class_of_its_own_is_a_tuple(self):
        Node = namedtuple("Node", FIELDS)
        self.assert_forest(tuple(Node(*node) for node in G))


class Items(Checks):
    def test_items_that_are_no_tuples_of_seven(self):
        wrong = no_integers() + large_integers() + [0, 1, (), SINGLE[:6], SINGLE + (0,), list(SINGLE), SINGLE * 2]
        for item in wrong:
            self.assert_invalid((item,), (0,))
            self.assert_invalid((SINGLE, item), (1,))
            self.assert_invalid((item, SINGLE, item), (0,))
            self.assert_invalid((SINGLE,) * 59 + (item,), (59,))

    def test_a_node_by_itself_is_no_forest(self):
        self.assert_invalid(SINGLE, (0,))

    def test_the_first_wrong_label_counts(self):
        self.assert_invalid((SINGLE, node_with(SINGLE, up=1), None), (1, "up"))
        self.assert_invalid((SINGLE, None, node_with(SINGLE, size=1)), (1,))


class Fields(Checks):
    def check_field(self, forest, label, name, good, bad):
        for value in good:
            with self.subTest(name=name, good=value):
                self.assert_forest(forest_with(forest, label, **{name: value}))
        for value in bad:
            with self.subTest(name=name, bad=value):
                self.assert_invalid(forest_with(forest, label, **{name: value}), (label, name))

    def test_size(self):
        bad = [0, 1, 13] + large_integers() + no_integers()
        self.check_field((SINGLE, SINGLE), 1, "size", range(2, 13), bad)

    def test_shown(self):
        for size in (2, 7, 12):
            forest = (SINGLE, node_with(SINGLE, size=size))
            bad = [size, size + 1] + large_integers() + no_integers()
            self.check_field(forest, 1, "shown", range(size), bad)

    def test_allowed_of_every_size(self):
        for size in (2, 7, 12):
            forest = (node_with(SINGLE, size=size), SINGLE)
            good = [(k,) for k in range(size)] + [tuple(range(size)), (0, size - 1), tuple(range(1, size))]
            bad = [(), (size,), (-1,), (0, size), (-1, 0), (0, 0), (1, 0), (size - 1, size - 1), (0, 1, 0),
                   (0, 1, 1), tuple(range(size + 1)), (0,) * 100000]
            self.check_field(forest, 0, "allowed", good, bad)

    def test_allowed_of_a_wrong_kind(self):
        bad = [value for value in no_integers() + large_integers() if value != ()] + [0, 1]
        bad += [[0], [0, 1], (0, True), (False, 1), (0, "1"), (0, None), (0, (1,)), (10 ** 3999,), {0: 0}.keys()]
        self.check_field((node_with(SINGLE, size=3),), 0, "allowed", [(0, 1)], bad)

    def test_weight(self):
        good = [0, 1, -1, 10 ** 12, -10 ** 12, 10 ** 12 - 1]
        self.check_field(G, 2, "weight", good, large_integers()[2:] + no_integers())

    def test_parent_that_is_no_label(self):
        bad = large_integers() + [value for value in no_integers() if value is not None]
        self.check_field((SINGLE,) * 3, 1, "parent", [None, 0, 2], bad + [3, 4])

    def test_parent_that_is_the_node_itself(self):
        for many in (1, 2, 60):
            for label in (0, many - 1):
                self.assert_invalid(forest_with((SINGLE,) * many, label, parent=label), (label, "parent"))

    def test_the_parent_of_a_forest_of_one_node_is_none(self):
        self.check_field((SINGLE,), 0, "parent", [None], [0, 1, -1, False, "-"])

    def test_the_only_other_label_of_sixty(self):
        self.check_field((SINGLE,) * 60, 0, "parent", range(1, 60), [0, 60])

    def test_down_of_a_child(self):
        for size in (2, 7, 12):
            forest = (SINGLE, node_with(SINGLE, size=size, parent=0))
            bad = [size, size + 1] + large_integers() + no_integers()
            self.check_field(forest, 1, "down", range(size), bad)

    def test_down_is_not_bounded_by_the_size_of_the_parent(self):
        self.check_field((SINGLE, node_with(SINGLE, size=12, parent=0)), 1, "down", [2, 11], [12])

    def test_up_of_a_child(self):
        for size in (2, 7, 12):
            forest = (node_with(SINGLE, size=size), node_with(SINGLE, parent=0))
            bad = list(range(size, 13)) + large_integers() + no_integers()
            self.check_field(forest, 1, "up", range(size), bad)

    def test_up_is_not_bounded_by_the_size_of_the_node(self):
        self.check_field((node_with(SINGLE, size=12), node_with(SINGLE, parent=0)), 1, "up", [2, 11], [12])

    def test_down_and_up_of_a_root(self):
        for name in ("down", "up"):
            bad = [1, 11, 12] + large_integers() + no_integers()
            self.check_field((node_with(SINGLE, size=12), SINGLE), 0, name, [0], bad)


class Order(Checks):
    def test_the_first_wrong_field_of_a_node_counts(self):
        for k in range(7):
            fields = {name: "no" for name in FIELDS[k:]}
            self.assert_invalid((SINGLE, node_with(SINGLE, **fields)), (1, FIELDS[k]))

    def test_a_wrong_size_hides_fields_that_depend_on_it(self):
        self.assert_invalid((node_with(SINGLE, size=0, shown=5, allowed=(7,), down=3),), (0, "size"))

    def test_the_first_wrong_label_comes_before_the_first_wrong_field(self):
        self.assert_invalid((node_with(SINGLE, up=1), node_with(SINGLE, size=1)), (0, "up"))

    def test_fields_of_later_nodes_come_before_loops(self):
        loop = (node_with(SINGLE, parent=1), node_with(SINGLE, parent=0))
        self.assert_invalid(loop + (node_with(SINGLE, up=1),), (2, "up"))
        self.assert_invalid(loop + ((),), (2,))

    def test_a_loop_comes_before_up_against_the_size_of_the_parent(self):
        forest = (SINGLE, node_with(SINGLE, parent=0, up=2), node_with(SINGLE, parent=3), node_with(SINGLE, parent=2))
        self.assert_invalid(forest, (2, "parent"))
        self.assert_invalid(forest_with(forest, 3, parent=None), (1, "up"))

    def test_up_above_eleven_comes_before_a_loop(self):
        forest = (SINGLE, node_with(SINGLE, parent=2), node_with(SINGLE, parent=1), node_with(SINGLE, parent=0, up=12))
        self.assert_invalid(forest, (3, "up"))
        self.assert_invalid(forest_with(forest, 3, up=11), (1, "parent"))

    def test_the_smallest_up_against_the_size_of_the_parent(self):
        forest = (node_with(SINGLE, size=5), node_with(SINGLE, parent=0, up=4), node_with(SINGLE, parent=1, up=2),
                  node_with(SINGLE, parent=0, up=5))
        self.assert_invalid(forest, (2, "up"))
        self.assert_invalid(forest_with(forest, 2, up=1), (3, "up"))
        self.assert_invalid(forest_with(forest, 2, up=2, parent=0), (3, "up"))

    def test_example(self):
        self.assert_invalid(((2, 2, (0,), 1, None, 0, 0),), (0, "shown"))
        self.assertIs(is_forest(G), True)


class Loops(Checks):
    def test_two_nodes(self):
        self.assert_invalid((node_with(SINGLE, parent=1), node_with(SINGLE, parent=0)), (0, "parent"))

    def test_every_length_of_a_loop(self):
        for many in range(2, 61):
            forest = forest_with(chain(many), 0, parent=many - 1)
            self.assert_invalid(forest, (0, "parent"))

    def test_a_loop_behind_a_tree(self):
        forest = chain(5) + (node_with(SINGLE, parent=6), node_with(SINGLE, parent=7), node_with(SINGLE, parent=5))
        self.assert_invalid(forest, (5, "parent"))

    def test_a_node_that_leads_into_a_loop(self):
        forest = (SINGLE, node_with(SINGLE, parent=3), node_with(SINGLE, parent=0),
                  node_with(SINGLE, parent=4), node_with(SINGLE, parent=3))
        self.assert_invalid(forest, (1, "parent"))

    def test_a_path_of_sixty_nodes_is_no_loop(self):
        self.assert_forest(tuple(node_with(SINGLE, parent=k + 1 if k < 59 else None) for k in range(60)))


class MakeNode(unittest.TestCase):
    def test_the_defaults(self):
        self.assertEqual(make_node(2, 1, (0,)), (2, 1, (0,), 1, None, 0, 0))
        self.assertIs(type(make_node(2, 1, (0,))), tuple)

    def test_each_keyword_argument(self):
        self.assertEqual(make_node(5, 1, (0, 3), weight=-7), (5, 1, (0, 3), -7, None, 0, 0))
        self.assertEqual(make_node(5, 1, (0, 3), parent=4), (5, 1, (0, 3), 1, 4, 0, 0))
        self.assertEqual(make_node(5, 1, (0, 3), down=4), (5, 1, (0, 3), 1, None, 4, 0))
        self.assertEqual(make_node(5, 1, (0, 3), up=4), (5, 1, (0, 3), 1, None, 0, 4))
        self.assertEqual(make_node(3, 1, (0,), up=1, down=2, parent=0, weight=5), G[1])

    def test_by_name(self):
        self.assertEqual(make_node(allowed=(0,), shown=1, size=2), (2, 1, (0,), 1, None, 0, 0))

    def test_it_does_not_check(self):
        allowed = [9, "x"]
        node = make_node("size", None, allowed, weight=True, parent=-1, down=(), up={})
        self.assertEqual(node, ("size", None, [9, "x"], True, -1, (), {}))
        self.assertIs(node[2], allowed)

    def test_the_keyword_arguments_have_no_place(self):
        with self.assertRaises(TypeError):
            make_node(2, 1, (0,), 1)


class Arguments(unittest.TestCase):
    def test_values_stay_as_they_were(self):
        for value in ([SINGLE], ([2, 0, [0], 1, None, 0, 0],), (node_with(SINGLE, allowed=[1, 0]),), {"a": [1]}):
            before = copy.deepcopy(value)
            self.assertFalse(is_forest(value))
            with self.assertRaises(InvalidForest):
                validate(value)
            self.assertEqual(value, before)

    def test_by_name(self):
        self.assertIsNone(validate(forest=G))
        self.assertTrue(is_forest(value=G))


if __name__ == "__main__":
    unittest.main()
