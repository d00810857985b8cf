import math
import random
import time
import unittest

from dialforest.counts import check_count_table, count_runs, count_table
from dialforest.errors import InvalidForest
from dialforest.forests import mirror, relabel
from tests.oracles import branch, clearing_runs, count_by_words, count_row_by_trying, count_row_by_words, downward_count
from tests.samples import F, G, MIXED, SINGLE, chain, clearable, downward_forest, free_forest, large_integers
from tests.samples import loose_forests, no_integers, node_with
from tests.samples import random_forests, shapes, small_forests, turning_forest

INVALID = (SINGLE, node_with(SINGLE, shown=2))


class Examples(unittest.TestCase):
    def test_the_examples_of_the_document(self):
        self.assertEqual(count_table(G)[2], ((1,), (0,), (((1,), (0,)),)))
        self.assertEqual(count_runs(G), 1)
        self.assertEqual(count_runs(F), 2)


class Rows(unittest.TestCase):
    def assert_rows(self, forest):
        table = count_table(forest)
        self.assertIs(type(table), tuple)
        self.assertEqual(len(table), len(forest))
        for label, row in enumerate(table):
            self.assertEqual(row, count_row_by_words(forest, label, table))
        return table

    def test_against_all_sequences_of_a_subtree(self):
        for forest in small_forests(5, 6) + loose_forests(6, 6) + [G, F]:
            for label, row in enumerate(self.assert_rows(forest)):
                self.assertEqual(row, count_row_by_trying(forest, label))

    def test_against_the_words_for_larger_forests(self):
        for forest in random_forests() + [chain(40), MIXED]:
            self.assert_rows(clearable(forest))
        for parents in shapes(25):
            self.assert_rows(downward_forest(parents))
            self.assert_rows(mirror(downward_forest(parents)))

    def test_the_whole_table_of_a_small_forest(self):
        wanted = (
            ((0, 1, 0), None, (((0,), (1,)), ((0, 0), (1, 0)), ((0, 1, 0), (0, 0, 0)))),
            ((0,), (1,), (((0,), (1,), (0,)),)),
            ((1,), (0,), (((1,), (0,)),)),
        )
        self.assertEqual(count_table(G), wanted)

    def test_early_and_late_by_position(self):
        # The child may go before or after its parent; two children give three positions.
        forest = free_forest([None, 0, 0], [1, 1, 1])
        self.assertEqual(count_table(forest)[0][:2], ((2, 2, 2), None))
        self.assertEqual(count_table(forest)[1][:2], ((1,), (1,)))
        forest = downward_forest([None, 0, 1, 1])
        self.assertEqual(count_table(forest)[1][:2], ((0, 0, 0), (2, 0, 0)))
        self.assertEqual(count_table(forest)[0][0], (2, 0, 0, 0))

    def test_stages_by_remainder_and_position(self):
        forest = ((3, 2, (1,), 1, None, 0, 0), (2, 0, (0, 1), 1, 0, 0, 1), (2, 0, (0,), 1, 0, 1, 2))
        stages = count_table(forest)[0][2]
        self.assertEqual(stages[0], ((0,), (0,), (1,)))
        self.assertEqual(stages[1], ((0, 1), (0, 0), (1, 0)))
        # Child 2 is early only: at remainder 2 both children are removed, at remainder 1 child 2 alone.
        self.assertEqual(stages[2], ((0, 0, 0), (0, 1, 0), (0, 0, 2)))

    def test_children_are_taken_in_by_ascending_labels(self):
        forest = ((4, 0, (0,), 1, 2, 0, 1), (4, 1, (0,), 2, 2, 3, 2), (5, 0, (0,), 4, None, 0, 0))
        stages = count_table(forest)[2][2]
        self.assertEqual(stages[1], ((1, 0), (0, 1), (0, 0), (0, 0), (0, 0)))
        self.assertEqual(stages[2], ((2, 0, 0), (0, 1, 0), (0, 0, 0), (0, 0, 0), (0, 0, 0)))

    def test_late_is_none_for_a_root_only(self):
        self.assertEqual([row[1] is None for row in count_table(MIXED)], [False, True, False, False, True, False])
        self.assertEqual(count_table(F), (((1,), None, (((1,), (0,)),)),) * 2)

    def test_a_single_node(self):
        self.assertEqual(count_table(((3, 1, (0, 1), 9, None, 0, 0),)), (((1,), None, (((0,), (1,), (0,)),)),))
        self.assertEqual(count_table(((3, 2, (0, 1), 9, None, 0, 0),)), (((0,), None, (((0,), (0,), (1,)),)),))

    def test_the_same_result_on_a_second_call(self):
        for forest in loose_forests(4, 2) + [MIXED]:
            self.assertEqual(count_table(forest), count_table(forest))


class Runs(unittest.TestCase):
    def test_against_all_clearing_runs_of_small_forests(self):
        found = []
        for forest in small_forests(5, 20) + loose_forests(6, 12):
            for other in (forest, clearable(forest)):
                self.assertEqual(count_runs(other), len(clearing_runs(other)))
                found.append(count_runs(other))
        self.assertGreater(found.count(0), 10)
        self.assertGreater(len(set(found)), 20)

    def test_against_the_words_for_larger_forests(self):
        for forest in random_forests():
            other = clearable(forest)
            self.assertEqual(count_runs(other), count_by_words(other, count_table(other)))
            self.assertGreater(count_runs(other), 0)

    def test_a_forest_without_a_clearing_run(self):
        self.assertEqual(count_runs(((2, 1, (0,), 1, None, 0, 0),)), 0)
        self.assertEqual(count_runs((SINGLE, node_with(SINGLE, shown=1))), 0)
        self.assertEqual(count_runs(downward_forest([None, *range(59)])[:59] + (node_with(SINGLE, shown=1),)), 0)

    def test_single_nodes(self):
        for many in (1, 2, 3, 17, 60):
            self.assertEqual(count_runs((SINGLE,) * many), math.factorial(many))

    def test_several_trees_are_interleaved(self):
        # Paths of 1, 2 and 3 nodes, each of which can be removed in one order only.
        parents = [None, None, 1, None, 3, 4]
        self.assertEqual(count_runs(downward_forest(parents)), 60)
        self.assertEqual(count_runs(relabel(downward_forest(parents), (5, 2, 0, 4, 1, 3))), 60)
        self.assertEqual(len(clearing_runs(downward_forest(parents))), 60)

    def test_every_order_clears(self):
        for many in (1, 2, 7, 30, 60):
            for parents in shapes(many):
                self.assertEqual(count_runs(free_forest(parents, [1] * many)), math.factorial(many))

    def test_every_node_needs_its_parent_removed_first(self):
        for many in (1, 2, 6, 31, 60):
            for parents in shapes(many):
                forest = downward_forest(parents)
                self.assertEqual(count_runs(forest), downward_count(forest))
                self.assertEqual(count_runs(mirror(forest)), downward_count(forest))
        self.assertEqual(count_runs(downward_forest([None, *range(59)])), 1)
        self.assertEqual(count_runs(downward_forest([None] + [0] * 59)), math.factorial(59))

    def test_a_node_that_waits_for_some_of_its_children(self):
        # Half of the eleven leaves turn the root to its number: the root has a place behind exactly 5 of them.
        forest = ((12, 7, (0,), 1, None, 0, 0),) + ((2, 0, (0, 1), 1, 0, 0, 1),) * 11
        self.assertEqual(count_runs(forest), math.factorial(11))
        self.assertEqual(count_table(forest)[0][0], (0,) * 5 + (math.factorial(11),) + (0,) * 6)

    def test_labels_do_not_matter(self):
        rng = random.Random(71)
        for forest in loose_forests(8, 3) + [clearable(forest) for forest in random_forests()]:
            order = list(range(len(forest)))
            rng.shuffle(order)
            self.assertEqual(count_runs(relabel(forest, tuple(order))), count_runs(forest))


class Mirror(unittest.TestCase):
    def test_the_mirror_has_as_many_clearing_runs(self):
        for forest in small_forests(8, 4) + loose_forests(10, 4) + random_forests():
            for other in (forest, clearable(forest)):
                self.assertEqual(count_runs(mirror(other)), count_runs(other))

    def test_the_clearing_runs_are_the_reversed_ones(self):
        for forest in loose_forests(5, 5):
            runs = [run[::-1] for run in clearing_runs(forest)]
            self.assertEqual(clearing_runs(mirror(forest)), sorted(runs))
            self.assertEqual(count_runs(mirror(forest)), len(runs))


class Quick(unittest.TestCase):
    def test_sixty_nodes(self):
        began = time.perf_counter()
        for parents in shapes(60):
            forest = turning_forest(parents)
            self.assertEqual(count_runs(forest), math.factorial(60))
            self.assertEqual(sum(count_table(forest)[0][0]), math.factorial(len(branch(forest, 0))))
        self.assertLess(time.perf_counter() - began, 5)


class Arguments(unittest.TestCase):
    def test_values_that_are_no_forests(self):
        for ask in (count_table, count_runs, lambda forest: check_count_table(forest, None)):
            for value in no_integers() + large_integers() + [(), list(G), chain(61), (None,), (SINGLE, list(SINGLE))]:
                with self.assertRaises(InvalidForest):
                    ask(value)
            with self.assertRaises(InvalidForest) as context:
                ask(INVALID)
            self.assertEqual(context.exception.path, (1, "shown"))

    def test_a_list_stays_as_it_was(self):
        value = [list(SINGLE), SINGLE]
        for ask in (count_table, count_runs):
            with self.assertRaises(InvalidForest):
                ask(value)
            with self.assertRaises(InvalidForest):
                ask(tuple(value))
        self.assertEqual(value, [list(SINGLE), SINGLE])

    def test_by_name(self):
        self.assertEqual(count_table(forest=F), count_table(F))
        self.assertEqual(count_runs(forest=F), 2)


if __name__ == "__main__":
    unittest.main()
