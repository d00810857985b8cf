import math
import random
import time
import unittest

from dialforest.counts import count_runs
from dialforest.errors import InvalidForest, InvalidLabel, NotChild
from dialforest.forests import mirror, path_to_root, relabel, validate
from dialforest.positions import edge_counts, position_counts, rerooted
from dialforest.runs import is_run
from tests.oracles import all_runs, clearing_runs
from tests.samples import F, G, MIXED, SINGLE, chain, clearable, downward_forest, free_forest, large_integers
from tests.samples import loose_forests, no_integers, node_with
from tests.samples import random_forests, shapes, small_forests, turning_forest

INVALID = (SINGLE, node_with(SINGLE, shown=2))
ASKED_BY_LABEL = (rerooted, position_counts, edge_counts)


def rerooted_by_words(forest, label):
    """Return the forest in which every edge on the path of the node is turned around, one field after the other."""
    nodes = [list(node) for node in forest]
    child = label
    while forest[child][4] is not None:
        parent = forest[child][4]
        nodes[parent][4:] = [child, forest[child][6], forest[child][5]]
        child = parent
    nodes[label][4:] = [None, 0, 0]
    return tuple(tuple(node) for node in nodes)


def positions_by_trying(forest, label):
    runs = clearing_runs(forest)
    return tuple(sum(run.index(label) == k for run in runs) for k in range(len(forest)))


def edge_by_trying(forest, label):
    runs = clearing_runs(forest)
    before = sum(run.index(label) < run.index(forest[label][4]) for run in runs)
    return before, len(runs) - before


class Examples(unittest.TestCase):
    def test_the_examples_of_the_document(self):
        wanted = ((2, 1, (0,), 3, 1, 1, 2), (3, 1, (0,), 5, None, 0, 0), (2, 0, (0,), -1, 0, 1, 1))
        self.assertEqual(rerooted(G, 1), wanted)
        self.assertEqual(position_counts(G, 0), (0, 1, 0))
        self.assertEqual(edge_counts(G, 1), (0, 1))


class Rerooted(unittest.TestCase):
    def test_the_path_is_turned_around(self):
        for forest in random_forests() + loose_forests(6, 4) + [MIXED, chain(60)]:
            for label in range(len(forest)):
                found = rerooted(forest, label)
                self.assertEqual(found, rerooted_by_words(forest, label))
                path = path_to_root(forest, label)
                self.assertEqual(path_to_root(found, path[-1]), path[::-1])
                validate(found)

    def test_kinds_of_values(self):
        found = rerooted(MIXED, 3)
        self.assertIs(type(found), tuple)
        self.assertEqual({type(node) for node in found}, {tuple})

    def test_only_the_path_changes(self):
        found = rerooted(MIXED, 3)
        self.assertEqual(found[3], (12, 11, (0, 11), 10 ** 12, None, 0, 0))
        self.assertEqual(found[0], (4, 3, (1, 2), 7, 3, 3, 11))
        self.assertEqual(found[4], (3, 2, (1,), -10 ** 12, 0, 2, 3))
        self.assertEqual([found[label] for label in (1, 2, 5)], [MIXED[label] for label in (1, 2, 5)])

    def test_a_root_stays_a_root(self):
        for forest in random_forests():
            for label, node in enumerate(forest):
                if node[4] is None:
                    self.assertEqual(rerooted(forest, label), forest)

    def test_back_again(self):
        for forest in random_forests() + [MIXED, G]:
            for label in range(len(forest)):
                root = path_to_root(forest, label)[-1]
                self.assertEqual(rerooted(rerooted(forest, label), root), forest)

    def test_the_runs_stay_the_same(self):
        for forest in small_forests(5, 4) + loose_forests(5, 4):
            runs = all_runs(forest)
            for label in range(len(forest)):
                self.assertEqual(all_runs(rerooted(forest, label)), runs)
                self.assertTrue(all(is_run(rerooted(forest, label), run) for run in runs))


class Positions(unittest.TestCase):
    def test_against_all_clearing_runs_of_small_forests(self):
        found = 0
        for forest in small_forests(4, 8) + loose_forests(6, 6):
            for other in (forest, clearable(forest)):
                for label in range(len(other)):
                    self.assertEqual(position_counts(other, label), positions_by_trying(other, label))
                    found += any(position_counts(other, label))
        self.assertGreater(found, 100)

    def test_several_trees(self):
        forest = downward_forest([None, 0, None, None, 3])
        for label in range(5):
            self.assertEqual(position_counts(forest, label), positions_by_trying(forest, label))
        self.assertEqual(position_counts(F, 0), (1, 1))
        self.assertEqual(position_counts((SINGLE, node_with(SINGLE, shown=1)), 0), (0, 0))

    def test_the_sum_is_the_number_of_clearing_runs(self):
        for forest in random_forests()[:16]:
            other = clearable(forest)
            for label in range(len(other)):
                found = position_counts(other, label)
                self.assertEqual(len(found), len(other))
                self.assertIs(type(found), tuple)
                self.assertEqual(sum(found), count_runs(other))

    def test_every_position_of_all_nodes_is_taken_once(self):
        for forest in [clearable(forest) for forest in random_forests()[:16]] + loose_forests(8, 2):
            counts = [position_counts(forest, label) for label in range(len(forest))]
            for entries in zip(*counts):
                self.assertEqual(sum(entries), count_runs(forest))

    def test_the_mirror_has_the_positions_turned_around(self):
        for forest in loose_forests(8, 3) + random_forests()[-3:]:
            for label in range(len(forest)):
                self.assertEqual(position_counts(mirror(forest), label), position_counts(forest, label)[::-1])

    def test_every_order_clears(self):
        for parents in shapes(60):
            forest = free_forest(parents, [1] * 60)
            for label in (0, 17, 59):
                self.assertEqual(position_counts(forest, label), (math.factorial(59),) * 60)

    def test_sixty_nodes_of_a_path_and_a_star(self):
        forest = downward_forest([None, *range(59)])
        for label in range(60):
            self.assertEqual(position_counts(forest, label), tuple(int(k == label) for k in range(60)))
        forest = downward_forest([None] + [0] * 59)
        self.assertEqual(position_counts(forest, 0), (math.factorial(59),) + (0,) * 59)
        self.assertEqual(position_counts(forest, 31), (0,) + (math.factorial(58),) * 59)
        self.assertEqual(position_counts(mirror(forest), 0), (0,) * 59 + (math.factorial(59),))

    def test_sixty_nodes_are_quick(self):
        began = time.perf_counter()
        for parents in shapes(60):
            forest = turning_forest(parents)
            for label in range(60):
                self.assertEqual(position_counts(forest, label)[label], math.factorial(59))
        self.assertLess(time.perf_counter() - began, 20)


class Edges(unittest.TestCase):
    def test_against_all_clearing_runs_of_small_forests(self):
        found = set()
        for forest in small_forests(4, 8) + loose_forests(6, 6):
            for other in (forest, clearable(forest)):
                for label, node in enumerate(other):
                    if node[4] is not None:
                        self.assertEqual(edge_counts(other, label), edge_by_trying(other, label))
                        found.add(edge_counts(other, label))
        self.assertGreater(len(found), 30)

    def test_the_sum_is_the_number_of_clearing_runs(self):
        for forest in random_forests()[:16] + [chain(60), MIXED]:
            other = clearable(forest)
            for label, node in enumerate(other):
                if node[4] is not None:
                    found = edge_counts(other, label)
                    self.assertIs(type(found), tuple)
                    self.assertEqual(len(found), 2)
                    self.assertEqual(sum(found), count_runs(other))

    def test_sixty_nodes(self):
        for parents in shapes(60)[1:]:
            forest = free_forest(parents, [1] * 60)
            label = next(label for label in range(59, -1, -1) if parents[label] is not None)
            self.assertEqual(edge_counts(forest, label), (math.factorial(60) // 2,) * 2)
            forest = downward_forest(parents)
            self.assertEqual(edge_counts(forest, label), (0, count_runs(forest)))
            self.assertEqual(edge_counts(mirror(forest), label), (count_runs(forest), 0))

    def test_a_turned_edge_has_the_pair_turned_around(self):
        for forest in loose_forests(7, 3) + [clearable(forest) for forest in random_forests()[:16]]:
            for label, node in enumerate(forest):
                if node[4] is not None:
                    found = edge_counts(rerooted(forest, label), node[4])
                    self.assertEqual(found, edge_counts(forest, label)[::-1])

    def test_labels_do_not_matter(self):
        rng = random.Random(92)
        for forest in loose_forests(7, 3):
            order = list(range(len(forest)))
            rng.shuffle(order)
            other = relabel(forest, tuple(order))
            for k, label in enumerate(order):
                self.assertEqual(position_counts(other, k), position_counts(forest, label))
                if forest[label][4] is not None:
                    self.assertEqual(edge_counts(other, k), edge_counts(forest, label))

    def test_a_root_has_no_edge(self):
        for forest, label in [(G, 0), (F, 0), (F, 1), (MIXED, 1), (MIXED, 4), (chain(60), 0)]:
            with self.assertRaises(NotChild) as context:
                edge_counts(forest, label)
            self.assertEqual(context.exception.label, label)
            self.assertIs(type(context.exception.label), int)


class Errors(unittest.TestCase):
    def test_values_that_are_no_labels(self):
        for ask in ASKED_BY_LABEL:
            for value in no_integers() + large_integers() + [3, 60, (), (0,), [0], "0"]:
                with self.assertRaises(InvalidLabel) as context:
                    ask(G, value)
                self.assertIs(context.exception.label, value)

    def test_a_wrong_label_comes_before_a_root(self):
        for value in (False, True, 1, -1, None):
            with self.assertRaises(InvalidLabel) as context:
                edge_counts((SINGLE,), value)
            self.assertIs(context.exception.label, value)

    def test_an_invalid_forest_comes_first(self):
        for ask in ASKED_BY_LABEL:
            for label in [0, 1, 2, None, True, [0]]:
                with self.assertRaises(InvalidForest) as context:
                    ask(INVALID, label)
                self.assertEqual(context.exception.path, (1, "shown"))
            for value in no_integers() + large_integers() + [(), list(G), chain(61)]:
                with self.assertRaises(InvalidForest):
                    ask(value, 0)

    def test_values_stay_as_they_were(self):
        value = [[0]]
        for ask in ASKED_BY_LABEL:
            with self.assertRaises(InvalidLabel):
                ask(G, value)
            with self.assertRaises(InvalidForest):
                ask(value, value)
        self.assertEqual(value, [[0]])

    def test_by_name(self):
        self.assertEqual(rerooted(label=1, forest=G), rerooted(G, 1))
        self.assertEqual(position_counts(label=0, forest=G), (0, 1, 0))
        self.assertEqual(edge_counts(label=1, forest=G), (0, 1))


if __name__ == "__main__":
    unittest.main()
