import math
import random
import time
import unittest

from dialforest.counts import count_runs
from dialforest.errors import InvalidForest, TooLarge
from dialforest.forests import roots, subtree, validate
from dialforest.joins import place_beside, trees
from dialforest.lengths import length_counts
from dialforest.preparation import least_preparation, least_price
from dialforest.reach import greatest_weight
from tests.oracles import branch, clearing_runs
from tests.samples import F, G, MIXED, SINGLE, chain, clearable, free_forest, large_integers, loose_forests, no_integers
from tests.samples import node_with, random_forest, random_forests, shapes, small_forests

INVALID = (SINGLE, node_with(SINGLE, shown=2))


def beside_by_words(forest, other):
    """Return the nodes of both forests, the labels of the second one grown."""
    found = [node_with(node) for node in forest]
    for node in other:
        parent = node[4]
        found.append(node if parent is None else node_with(node, parent=parent + len(forest)))
    return tuple(found)


class Examples(unittest.TestCase):
    def test_the_examples_of_the_document(self):
        self.assertEqual(place_beside(F[:1], F[1:]), F)
        self.assertEqual(trees(F), ((F[:1], (0,)), (F[1:], (1,))))


class Beside(unittest.TestCase):
    def pairs(self):
        rng = random.Random(121)
        found = [(G, G), (G, F), (F, G), (MIXED, G), (G, MIXED), (chain(59), F[:1]), (F[:1], chain(59))]
        for _ in range(20):
            many = rng.randint(1, 59)
            found.append((random_forest(rng, many), random_forest(rng, rng.randint(1, 60 - many))))
        return found

    def test_labels_of_the_second_forest_grow(self):
        for forest, other in self.pairs():
            found = place_beside(forest, other)
            self.assertEqual(found, beside_by_words(forest, other))
            self.assertIs(type(found), tuple)
            self.assertEqual({type(node) for node in found}, {tuple})
            validate(found)
        self.assertEqual(place_beside(G, MIXED)[3:][2], (2, 1, (0, 1), 0, 7, 1, 0))

    def test_weights_and_prices_add_up(self):
        for forest, other in self.pairs():
            found = place_beside(forest, other)
            self.assertEqual(greatest_weight(found), greatest_weight(forest) + greatest_weight(other))
            self.assertEqual(least_price(found), least_price(forest) + least_price(other))
            self.assertEqual(least_preparation(found), least_preparation(forest) + least_preparation(other))

    def test_clearing_runs_multiply(self):
        for pair in self.pairs():
            for forest, other in (pair, [clearable(forest) for forest in pair]):
                ways = math.comb(len(forest) + len(other), len(other))
                found = count_runs(place_beside(forest, other))
                self.assertEqual(found, count_runs(forest) * count_runs(other) * ways)

    def test_against_all_clearing_runs(self):
        for forest, other in zip(loose_forests(3, 4), loose_forests(3, 4)[::-1]):
            found = place_beside(forest, other)
            self.assertEqual(count_runs(found), len(clearing_runs(found)))

    def test_runs_of_each_length_interleave(self):
        for forest, other in zip(loose_forests(8, 1), small_forests(8, 1)):
            wanted = [0] * (len(forest) + len(other) + 1)
            for a, ways in enumerate(length_counts(forest)):
                for b, others in enumerate(length_counts(other)):
                    wanted[a + b] += ways * others * math.comb(a + b, a)
            self.assertEqual(length_counts(place_beside(forest, other)), tuple(wanted))

    def test_sixty_nodes_and_no_more(self):
        self.assertEqual(place_beside((SINGLE,) * 30, (SINGLE,) * 30), (SINGLE,) * 60)
        for forest, other in [(31, 30), (60, 1), (1, 60), (60, 60)]:
            with self.assertRaises(TooLarge) as context:
                place_beside(chain(forest), chain(other))
            self.assertEqual(context.exception.limit, 60)


class Trees(unittest.TestCase):
    def test_every_tree_with_its_old_labels(self):
        for forest in random_forests() + small_forests(6, 4) + [G, F, MIXED, chain(60)]:
            found = trees(forest)
            self.assertIs(type(found), tuple)
            self.assertEqual(len(found), len(roots(forest)))
            for root, pair in zip(roots(forest), found):
                self.assertIs(type(pair), tuple)
                nodes, labels = pair
                self.assertEqual(labels, tuple(sorted(branch(forest, root))))
                self.assertEqual(labels, subtree(forest, root))
                validate(nodes)
                wanted = [
                    forest[label] if label == root else node_with(forest[label], parent=labels.index(forest[label][4]))
                    for label in labels
                ]
                self.assertEqual(nodes, tuple(wanted))

    def test_labels_in_mixed_order(self):
        (first, labels), (second, others) = trees(MIXED)
        self.assertEqual(labels, (1, 5))
        self.assertEqual(first, (MIXED[1], node_with(MIXED[5], parent=0)))
        self.assertEqual(others, (0, 2, 3, 4))
        wanted = (node_with(MIXED[0], parent=3), node_with(MIXED[2], parent=3), MIXED[3], MIXED[4])
        self.assertEqual(second, wanted)

    def test_one_tree_is_the_forest(self):
        for forest in (G, (SINGLE,), chain(60)):
            self.assertEqual(trees(forest), ((forest, tuple(range(len(forest)))),))

    def test_trees_beside_each_other_are_as_good_as_the_forest(self):
        for forest in random_forests():
            nodes = None
            for tree, _ in trees(clearable(forest)):
                nodes = tree if nodes is None else place_beside(nodes, tree)
            self.assertEqual(count_runs(nodes), count_runs(clearable(forest)))
            self.assertEqual(greatest_weight(nodes), greatest_weight(clearable(forest)))
        for forest in loose_forests(6, 3) + [chain(5)]:
            for other in (forest, free_forest([None] * len(forest), [1] * len(forest))):
                self.assertEqual(sum(greatest_weight(tree) for tree, _ in trees(other)), greatest_weight(other))
                self.assertEqual(sum(least_price(tree) for tree, _ in trees(other)), least_price(other))

    def test_the_trees_of_two_forests(self):
        for forest, other in [(G, MIXED), (MIXED, MIXED), (F, G)]:
            grown = tuple((tree, tuple(label + len(forest) for label in labels)) for tree, labels in trees(other))
            self.assertEqual(trees(place_beside(forest, other)), trees(forest) + grown)

    def test_sixty_nodes_are_quick(self):
        began = time.perf_counter()
        for parents in shapes(60):
            forest = free_forest(parents, [1] * 60)
            self.assertEqual(sum(len(labels) for _, labels in trees(forest)), 60)
        self.assertLess(time.perf_counter() - began, 5)


class Errors(unittest.TestCase):
    def test_the_first_forest_comes_first(self):
        for other in [F, None, (), INVALID, chain(60), [SINGLE]]:
            with self.assertRaises(InvalidForest) as context:
                place_beside(INVALID, other)
            self.assertEqual(context.exception.path, (1, "shown"))

    def test_then_the_second_forest(self):
        for forest in (G, chain(60)):
            with self.assertRaises(InvalidForest) as context:
                place_beside(forest, INVALID)
            self.assertEqual(context.exception.path, (1, "shown"))
            with self.assertRaises(InvalidForest) as context:
                place_beside(forest, (SINGLE,) * 61)
            self.assertEqual(context.exception.path, ())

    def test_values_that_are_no_forests(self):
        for value in no_integers() + large_integers() + [(), list(G), chain(61)]:
            for ask in (trees, lambda forest: place_beside(forest, G), lambda forest: place_beside(G, forest)):
                with self.assertRaises(InvalidForest):
                    ask(value)

    def test_values_stay_as_they_were(self):
        value = [list(SINGLE)]
        for ask in (trees, lambda forest: place_beside(forest, G), lambda forest: place_beside(G, forest)):
            for forest in (value, tuple(value)):
                with self.assertRaises(InvalidForest):
                    ask(forest)
        self.assertEqual(value, [list(SINGLE)])

    def test_by_name(self):
        self.assertEqual(place_beside(other=F, forest=G), place_beside(G, F))
        self.assertEqual(trees(forest=F), trees(F))


if __name__ == "__main__":
    unittest.main()
