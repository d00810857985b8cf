import unittest

from dialforest.errors import InvalidForest, InvalidLabel
from dialforest.forests import children, neighbours, path_to_root, require_label, roots, subtree
from tests.samples import F, G, MIXED, SINGLE
from tests.samples import chain, large_integers, no_integers, node_with, random_forests

ASKED_BY_LABEL = (require_label, children, neighbours, path_to_root, subtree)
INVALID = (SINGLE, node_with(SINGLE, shown=2))


class Examples(unittest.TestCase):
    def test_the_examples_of_the_document(self):
        with self.assertRaises(InvalidLabel) as context:
            require_label(G, 3)
        self.assertEqual(context.exception.label, 3)
        self.assertEqual(roots(G), (0,))
        self.assertEqual(children(G, 0), (1, 2))
        self.assertEqual(neighbours(G, 1), (0,))
        self.assertEqual(path_to_root(G, 2), (2, 0))
        self.assertEqual(subtree(G, 0), (0, 1, 2))


class Mixed(unittest.TestCase):
    def test_roots(self):
        self.assertEqual(roots(MIXED), (1, 4))
        self.assertEqual(roots(F), (0, 1))

    def test_children(self):
        wanted = [(3,), (5,), (), (), (0, 2), ()]
        self.assertEqual([children(MIXED, label) for label in range(6)], wanted)

    def test_neighbours(self):
        wanted = [(3, 4), (5,), (4,), (0,), (0, 2), (1,)]
        self.assertEqual([neighbours(MIXED, label) for label in range(6)], wanted)

    def test_neighbours_with_the_parent_between_the_children(self):
        forest = (node_with(SINGLE, parent=1), node_with(SINGLE, parent=2), SINGLE, node_with(SINGLE, parent=1))
        self.assertEqual(neighbours(forest, 1), (0, 2, 3))

    def test_path_to_root(self):
        wanted = [(0, 4), (1,), (2, 4), (3, 0, 4), (4,), (5, 1)]
        self.assertEqual([path_to_root(MIXED, label) for label in range(6)], wanted)

    def test_subtree(self):
        wanted = [(0, 3), (1, 5), (2,), (3,), (0, 2, 3, 4), (5,)]
        self.assertEqual([subtree(MIXED, label) for label in range(6)], wanted)


class Shapes(unittest.TestCase):
    def test_a_single_node(self):
        forest = (SINGLE,)
        self.assertEqual(roots(forest), (0,))
        self.assertEqual([ask(forest, 0) for ask in ASKED_BY_LABEL], [None, (), (), (0,), (0,)])

    def test_a_path_of_sixty_nodes(self):
        forest = chain(60)
        self.assertEqual(roots(forest), (0,))
        self.assertEqual(children(forest, 58), (59,))
        self.assertEqual(children(forest, 59), ())
        self.assertEqual(neighbours(forest, 30), (29, 31))
        self.assertEqual(path_to_root(forest, 59), tuple(range(59, -1, -1)))
        self.assertEqual(subtree(forest, 20), tuple(range(20, 60)))

    def test_a_star_of_sixty_nodes_around_its_last(self):
        forest = tuple(node_with(SINGLE, parent=59) for _ in range(59)) + (SINGLE,)
        self.assertEqual(roots(forest), (59,))
        self.assertEqual(children(forest, 59), tuple(range(59)))
        self.assertEqual(neighbours(forest, 59), tuple(range(59)))
        self.assertEqual(subtree(forest, 59), tuple(range(60)))

    def test_the_definitions_hold_for_any_shape(self):
        for forest in random_forests():
            labels = range(len(forest))
            parents = [node[4] for node in forest]
            self.assertEqual(roots(forest), tuple(k for k in labels if parents[k] is None))
            for label in labels:
                below = [k for k in labels if parents[k] is not None and parents[k] == label]
                above = [] if parents[label] is None else [parents[label]]
                self.assertEqual(children(forest, label), tuple(below))
                self.assertEqual(neighbours(forest, label), tuple(sorted(below + above)))
                rest = path_to_root(forest, above[0]) if above else ()
                self.assertEqual(path_to_root(forest, label), (label,) + rest)
                inside = [label] + [k for child in below for k in subtree(forest, child)]
                self.assertEqual(subtree(forest, label), tuple(sorted(inside)))


class WrongLabels(unittest.TestCase):
    def assert_no_label(self, forest, label):
        for ask in ASKED_BY_LABEL:
            with self.subTest(ask=ask.__name__, label=label):
                with self.assertRaises(InvalidLabel) as context:
                    ask(forest, label)
                self.assertIs(context.exception.label, label)

    def test_integers_that_are_no_labels(self):
        for label in large_integers() + [3, 4, 60]:
            self.assert_no_label(G, label)
        self.assert_no_label((SINGLE,), 1)
        self.assert_no_label(chain(60), 60)
        self.assert_no_label(chain(60), -60)

    def test_values_that_are_no_integers(self):
        for label in no_integers() + [(0,), (0, 1), "a", [G]]:
            self.assert_no_label(G, label)

    def test_every_label_is_one(self):
        for forest in (G, F, MIXED, chain(60)):
            for label in range(len(forest)):
                self.assertIsNone(require_label(forest, label))


class WrongForests(unittest.TestCase):
    def test_an_invalid_forest_comes_before_an_invalid_label(self):
        for ask in ASKED_BY_LABEL:
            for label in (0, 1, 2, -1, True, "0", None, [], ()):
                with self.assertRaises(InvalidForest) as context:
                    ask(INVALID, label)
                self.assertEqual(context.exception.path, (1, "shown"))

    def test_values_that_are_no_forests(self):
        for value in no_integers() + large_integers() + [(), list(G), chain(61)]:
            with self.assertRaises(InvalidForest):
                roots(value)
            for ask in ASKED_BY_LABEL:
                with self.assertRaises(InvalidForest):
                    ask(value, 0)

    def test_a_loop_is_refused(self):
        loop = (SINGLE, node_with(SINGLE, parent=2), node_with(SINGLE, parent=1))
        for ask in ASKED_BY_LABEL:
            with self.assertRaises(InvalidForest) as context:
                ask(loop, 1)
            self.assertEqual(context.exception.path, (1, "parent"))


class Arguments(unittest.TestCase):
    def test_by_name(self):
        self.assertEqual(roots(forest=G), (0,))
        self.assertIsNone(require_label(label=0, forest=G))
        self.assertEqual(children(label=0, forest=G), (1, 2))
        self.assertEqual(neighbours(label=0, forest=G), (1, 2))
        self.assertEqual(path_to_root(label=1, forest=G), (1, 0))
        self.assertEqual(subtree(label=1, forest=G), (1,))

    def test_values_stay_as_they_were(self):
        label = [0, [1]]
        forest = [list(node) for node in G]
        for ask in ASKED_BY_LABEL:
            with self.assertRaises(InvalidLabel):
                ask(G, label)
            with self.assertRaises(InvalidForest):
                ask(forest, label)
        self.assertEqual(label, [0, [1]])
        self.assertEqual(forest, [list(node) for node in G])


if __name__ == "__main__":
    unittest.main()
