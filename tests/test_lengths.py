import math
import random
import time
import unittest

from dialforest.counts import count_runs
from dialforest.errors import InvalidForest, TooLarge
from dialforest.forests import relabel
from dialforest.lengths import MOST_LENGTHS, length_counts
from dialforest.positions import rerooted
from tests.oracles import all_runs
from tests.samples import F, G, MIXED, SINGLE, chain, clearable, downward_forest, free_forest, large_integers
from tests.samples import loose_forests, no_integers, node_with, random_forest, shapes, small_forests, turning_forest


def lengths_by_trying(forest):
    runs = all_runs(forest)
    return tuple(sum(len(run) == length for run in runs) for length in range(len(forest) + 1))


class Examples(unittest.TestCase):
    def test_the_example_of_the_document(self):
        self.assertEqual(length_counts(F), (1, 2, 2))
        self.assertEqual(MOST_LENGTHS, 24)


class SmallForests(unittest.TestCase):
    def test_against_all_runs(self):
        found = set()
        for forest in small_forests(6, 8) + loose_forests(6, 8) + [G, F, MIXED]:
            for other in (forest, clearable(forest)):
                self.assertEqual(length_counts(other), lengths_by_trying(other))
                found.add(length_counts(other))
        self.assertGreater(len(found), 60)

    def test_a_single_node(self):
        self.assertEqual(length_counts((SINGLE,)), (1, 1))
        self.assertEqual(length_counts((node_with(SINGLE, shown=1),)), (1, 0))

    def test_a_node_that_stays_leaves_its_parent_alone(self):
        # The parent can be removed at once, or behind both of its children; the children at any time.
        forest = ((2, 0, (0,), 1, None, 0, 0), (2, 0, (0, 1), 1, 0, 0, 1), (2, 0, (0, 1), 1, 0, 0, 1))
        self.assertEqual(length_counts(forest), (1, 3, 4, 4))
        self.assertEqual(lengths_by_trying(forest), (1, 3, 4, 4))

    def test_kinds_of_values(self):
        found = length_counts(G)
        self.assertIs(type(found), tuple)
        self.assertEqual({type(entry) for entry in found}, {int})
        self.assertEqual(len(found), 4)


class LargerForests(unittest.TestCase):
    def test_every_order_is_a_run(self):
        wanted = tuple(math.perm(24, length) for length in range(25))
        for parents in shapes(24):
            self.assertEqual(length_counts(free_forest(parents, [1] * 24)), wanted)
            self.assertEqual(length_counts(turning_forest(parents)), wanted)

    def test_a_chain_in_which_each_node_waits_for_its_parent(self):
        self.assertEqual(length_counts(downward_forest([None, *range(23)])), (1,) * 25)
        self.assertEqual(length_counts(downward_forest([*range(1, 24), None])), (1,) * 25)

    def test_a_star_whose_leaves_wait_for_the_root(self):
        wanted = (1,) + tuple(math.perm(23, length - 1) for length in range(1, 25))
        self.assertEqual(length_counts(downward_forest([None] + [0] * 23)), wanted)

    def test_a_star_whose_root_waits_for_all_leaves(self):
        # Eleven leaves turn the root to its number; the other twelve do not matter to it.
        leaf = (2, 0, (0, 1), 1, 0, 0, 1)
        forest = ((12, 1, (0,), 1, None, 0, 0),) + (leaf,) * 11
        wanted = tuple(math.perm(11, length) for length in range(12)) + (math.factorial(11),)
        self.assertEqual(length_counts(forest), wanted)
        forest = forest + (node_with(leaf, up=0),) * 12
        with_root = [math.comb(12, more) * math.factorial(12 + more) // 12 for more in range(13)]
        wanted = [math.perm(23, length) for length in range(25)]
        for more, ways in enumerate(with_root):
            wanted[12 + more] += ways
        self.assertEqual(length_counts(forest), tuple(wanted))

    def test_a_root_that_ends_a_star(self):
        # A leaf can be removed only as long as the root is present.
        forest = ((2, 0, (0,), 1, None, 0, 0),) + ((2, 0, (0,), 1, 0, 1, 0),) * 23
        wanted = (1,) + tuple(math.perm(23, length) + math.perm(23, length - 1) for length in range(1, 25))
        self.assertEqual(length_counts(forest), wanted)

    def test_trees_are_interleaved(self):
        # Twelve paths of two nodes: choose which of them lose one node and which lose both.
        forest = downward_forest([None, 0] + [parent for k in range(2, 24, 2) for parent in (None, k)])
        wanted = [0] * 25
        for once in range(13):
            for both in range(13 - once):
                length = once + 2 * both
                ways = math.comb(12, once) * math.comb(12 - once, both)
                wanted[length] += ways * math.factorial(length) // 2 ** both
        self.assertEqual(length_counts(forest), tuple(wanted))

    def test_the_last_entry_is_the_number_of_clearing_runs(self):
        rng = random.Random(111)
        for many in range(1, 25):
            for forest in (clearable(random_forest(rng, many)), random_forest(rng, many)):
                found = length_counts(forest)
                self.assertEqual(len(found), many + 1)
                self.assertEqual(found[0], 1)
                self.assertEqual(found[1], sum(node[1] in node[2] for node in forest))
                self.assertEqual(found[-1], count_runs(forest))

    def test_labels_and_roots_do_not_matter(self):
        rng = random.Random(112)
        for many in (5, 11, 17, 24):
            forest = clearable(random_forest(rng, many))
            order = tuple(rng.sample(range(many), many))
            self.assertEqual(length_counts(relabel(forest, order)), length_counts(forest))
            for label in rng.sample(range(many), 3):
                self.assertEqual(length_counts(rerooted(forest, label)), length_counts(forest))

    def test_twenty_four_nodes_are_quick(self):
        began = time.perf_counter()
        for parents in shapes(24) + [(None, *range(11), None, *range(12, 23)), (None, 0, 0, *range(1, 22))]:
            self.assertEqual(length_counts(turning_forest(parents))[-1], math.factorial(24))
        self.assertLess(time.perf_counter() - began, 5)


class Errors(unittest.TestCase):
    def test_twenty_five_nodes_are_too_many(self):
        for forest in [(SINGLE,) * 25, chain(25), chain(60), (node_with(SINGLE, shown=1),) * 25]:
            with self.assertRaises(TooLarge) as context:
                length_counts(forest)
            self.assertEqual(context.exception.limit, 24)
        self.assertEqual(length_counts((SINGLE,) * 24)[24], math.factorial(24))

    def test_an_invalid_forest_comes_first(self):
        for many in (1, 23, 24, 25, 59):
            with self.assertRaises(InvalidForest) as context:
                length_counts((SINGLE,) * many + (node_with(SINGLE, shown=2),))
            self.assertEqual(context.exception.path, (many, "shown"))
        for value in no_integers() + large_integers() + [(), list(G), chain(61), (SINGLE,) * 61]:
            with self.assertRaises(InvalidForest):
                length_counts(value)

    def test_values_stay_as_they_were(self):
        value = [list(SINGLE)]
        for forest in (value, tuple(value)):
            with self.assertRaises(InvalidForest):
                length_counts(forest)
        self.assertEqual(value, [list(SINGLE)])

    def test_by_name(self):
        self.assertEqual(length_counts(forest=F), (1, 2, 2))
        self.assertEqual(length_counts(F), length_counts(F))


if __name__ == "__main__":
    unittest.main()
