import random
import unittest

from dialforest.errors import InvalidForest, InvalidRun, NothingRemains
from dialforest.forests import validate
from dialforest.runs import Play, check_run, is_run, remaining, removable, run_weight, shown_after
from tests.oracles import after_removal, all_runs, removals, start, weight
from tests.samples import F, G, SINGLE
from tests.samples import chain, forest_with, free_forest, large_integers, no_integers, node_with
from tests.samples import random_forest, random_forests, small_forests

INVALID = (SINGLE, node_with(SINGLE, shown=2))
ASKED_BY_RUN = (check_run, shown_after, lambda forest, run: removable(forest, run=run), run_weight, remaining)


def walk(rng, forest):
    """Return a run that goes on, by random removals by hand, until nothing can be removed."""
    shown = start(forest)
    run = ()
    while True:
        ready = [label for label, number in shown.items() if number in forest[label][2]]
        if not ready:
            return run
        label = rng.choice(ready)
        shown = after_removal(forest, shown, label)
        run += (label,)


class Cases(unittest.TestCase):
    def assert_invalid(self, forest, run, position):
        self.assertIs(is_run(forest, run), False)
        for ask in ASKED_BY_RUN:
            with self.assertRaises(InvalidRun) as context:
                ask(forest, run)
            self.assertEqual(context.exception.position, position)
            self.assertEqual([type(item) for item in position], [type(item) for item in context.exception.position])


class Examples(Cases):
    def test_the_examples_of_the_document(self):
        self.assert_invalid(G, (2, 1), (1,))
        self.assertIs(is_run(G, (2, 0, 1)), True)
        self.assertEqual(shown_after(G, (2,)), (0, 1, None))
        self.assertEqual(removable(G), (2,))
        self.assertEqual(run_weight(G, (2, 0)), 2)
        self.assertEqual(remaining(G, (2, 0)), (((3, 0, (0,), 5, None, 0, 0),), (1,)))


class Runs(Cases):
    def test_all_tuples_of_small_forests(self):
        for forest in small_forests(4, 6):
            runs = set(all_runs(forest))
            for run in runs:
                self.assertIsNone(check_run(forest, run))
                self.assertIs(is_run(forest, run), True)
                for label in range(-1, len(forest) + 1):
                    if run + (label,) not in runs:
                        self.assert_invalid(forest, run + (label,), (len(run),))
                        self.assert_invalid(forest, run + (label, label, -1), (len(run),))

    def test_forests_of_up_to_sixty_nodes(self):
        rng = random.Random(3)
        for forest in random_forests():
            run = walk(rng, forest)
            self.assertIsNone(check_run(forest, run))
            self.assertIs(is_run(forest, run), True)
            for label in range(len(forest)):
                self.assert_invalid(forest, run + (label,), (len(run),))

    def test_a_tuple_with_two_items_exchanged(self):
        forest = chain(60)
        run = tuple(range(60))
        self.assertTrue(is_run(forest, run))
        forest = tuple(node_with(node, shown=1, down=1) if label else node for label, node in enumerate(forest))
        self.assertTrue(is_run(forest, run))
        self.assertTrue(is_run(forest, ()))
        self.assert_invalid(forest, run[:57] + (58, 57, 59), (57,))
        self.assert_invalid(forest, run[1:] + (0,), (0,))

    def test_a_node_that_shows_an_allowed_number_only_after_certain_neighbours(self):
        forest = (
            (5, 0, (1,), 1, None, 0, 0), (2, 0, (0,), 1, 0, 0, 3), (2, 0, (0,), 1, 0, 0, 3), (2, 0, (0,), 1, 0, 0, 2),
        )
        allowed_first = [run for run, _ in removals(forest, start(forest)) if 0 in run]
        self.assertEqual({frozenset(run[:run.index(0)]) for run in allowed_first}, {frozenset([1, 2])})
        self.assertTrue(is_run(forest, (1, 2, 0, 3)))
        self.assert_invalid(forest, (0,), (0,))
        self.assert_invalid(forest, (1, 0), (1,))
        self.assert_invalid(forest, (1, 3, 0), (2,))
        self.assert_invalid(forest, (1, 2, 3, 0), (3,))

    def test_both_amounts_of_an_edge(self):
        forest = ((12, 11, (2, 11), 1, None, 0, 0), (12, 10, (10, 5), 1, 0, 7, 3))
        forest = forest_with(forest, 1, allowed=(5, 10))
        self.assertEqual(shown_after(forest, (0,)), (None, 5))
        self.assertEqual(shown_after(forest, (1,)), (2, None))

    def test_a_grandparent_is_no_neighbour(self):
        forest = ((3, 0, (0,), 1, None, 0, 0), (3, 0, (0,), 1, 0, 1, 1), (3, 0, (0,), 1, 1, 1, 1))
        self.assertEqual(shown_after(forest, (2,)), (0, 1, None))
        self.assertEqual(shown_after(forest, (0,)), (None, 1, 0))


class WrongItems(Cases):
    def test_a_repeated_item(self):
        self.assert_invalid(F, (0, 0), (1,))
        self.assert_invalid(F, (0, 1, 0), (2,))
        self.assert_invalid(F, (0, 1, 1), (2,))
        self.assert_invalid(F, (0,) * 100000, (1,))

    def test_a_repeated_item_whose_number_would_be_allowed(self):
        forest = free_forest([None, 0], [1, 1])
        self.assert_invalid(forest, (0, 1, 0), (2,))

    def test_items_that_are_no_labels(self):
        for item in large_integers() + no_integers() + [2, 60, [], "", (), (0,)]:
            self.assert_invalid(F, (item,), (0,))
            self.assert_invalid(F, (item, item), (0,))
            self.assert_invalid(F, (1, item), (1,))
            self.assert_invalid(F, (1, 0, item), (2,))
            self.assert_invalid(F, (0, 0, item), (1,))

    def test_true_and_false_are_no_labels(self):
        forest = free_forest([None] * 3, [1] * 3)
        self.assert_invalid(forest, (True,), (0,))
        self.assert_invalid(forest, (2, False), (1,))
        self.assert_invalid(forest, (False, True), (0,))

    def test_a_label_from_the_end(self):
        self.assert_invalid(F, (-1,), (0,))
        self.assert_invalid(F, (0, -1), (1,))


class WrongKinds(Cases):
    def test_values_that_are_no_tuples(self):
        others = [value for value in no_integers() if not isinstance(value, tuple)]
        for value in others + large_integers() + [0, 1, [], [0], [0, 1], "01", {0}, {}, range(2)]:
            self.assert_invalid(F, value, ())

    def test_tuples_of_other_kinds(self):
        for value in no_integers():
            if isinstance(value, tuple):
                self.assert_invalid(F, value, (0,))

    def test_an_invalid_forest_comes_before_an_invalid_run(self):
        for run in [(), (0,), (5,), None, [], True, "0"]:
            for ask in ASKED_BY_RUN + (is_run,):
                with self.assertRaises(InvalidForest) as context:
                    ask(INVALID, run)
                self.assertEqual(context.exception.path, (1, "shown"))

    def test_values_that_are_no_forests(self):
        for value in no_integers() + large_integers() + [(), list(G), chain(61)]:
            for ask in ASKED_BY_RUN + (is_run,):
                with self.assertRaises(InvalidForest):
                    ask(value, ())
            with self.assertRaises(InvalidForest):
                removable(value)
            with self.assertRaises(InvalidForest):
                Play(value)


class Questions(unittest.TestCase):
    def assert_prefixes(self, forest, run):
        shown = start(forest)
        for length in range(len(run) + 1):
            prefix = run[:length]
            self.assertEqual(shown_after(forest, prefix), tuple(shown.get(k) for k in range(len(forest))))
            ready = tuple(k for k in sorted(shown) if shown[k] in forest[k][2])
            self.assertEqual(removable(forest, run=prefix), ready)
            self.assertEqual(run_weight(forest, prefix), weight(forest, prefix))
            if length < len(run):
                shown = after_removal(forest, shown, run[length])

    def test_after_every_prefix(self):
        rng = random.Random(5)
        for forest in random_forests() + small_forests(5, 4):
            self.assert_prefixes(forest, walk(rng, forest))

    def test_a_run_that_clears_sixty_nodes(self):
        self.assert_prefixes(chain(60), tuple(range(59, -1, -1)))

    def test_the_empty_run(self):
        for forest in random_forests():
            self.assertEqual(shown_after(forest, ()), tuple(node[1] for node in forest))
            self.assertEqual(run_weight(forest, ()), 0)
            self.assertEqual(removable(forest), removable(forest, run=()))

    def test_weights_at_the_bounds(self):
        forest = free_forest([None] * 60, [10 ** 12] * 59 + [-10 ** 12])
        self.assertEqual(run_weight(forest, tuple(range(59))), 59 * 10 ** 12)
        self.assertEqual(run_weight(forest, tuple(range(60))), 58 * 10 ** 12)

    def test_the_results_are_tuples(self):
        self.assertIs(type(shown_after(G, (2,))), tuple)
        self.assertIs(type(removable(G, run=(2,))), tuple)
        self.assertEqual(removable(F, run=(1, 0)), ())
        self.assertEqual(shown_after(F, (1, 0)), (None, None))


class Remaining(unittest.TestCase):
    def remaining_by_hand(self, forest, run):
        shown = start(forest)
        for label in run:
            shown = after_removal(forest, shown, label)
        labels = sorted(shown)
        nodes = []
        for label in labels:
            node = node_with(forest[label], shown=shown[label], parent=None, down=0, up=0)
            parent = forest[label][4]
            if parent in labels:
                node = node_with(forest[label], shown=shown[label], parent=labels.index(parent))
            nodes.append(node)
        return tuple(nodes), tuple(labels)

    def test_after_every_prefix(self):
        rng = random.Random(6)
        for forest in random_forests() + small_forests(5, 4):
            run = walk(rng, forest)
            for length in range(min(len(run) + 1, len(forest))):
                left, labels = remaining(forest, run[:length])
                validate(left)
                self.assertEqual((left, labels), self.remaining_by_hand(forest, run[:length]))
                self.assertIs(type(left), tuple)
                self.assertIs(type(labels), tuple)

    def test_the_empty_run(self):
        for forest in random_forests():
            self.assertEqual(remaining(forest, ()), (forest, tuple(range(len(forest)))))

    def test_children_of_removed_nodes_become_roots(self):
        forest = (
            (3, 1, (2,), 4, 1, 2, 1),
            (4, 0, (0,), 5, 2, 3, 2),
            (5, 1, (4,), 6, None, 0, 0),
            (6, 2, (0,), 7, 1, 5, 3),
        )
        wanted = ((3, 0, (2,), 4, None, 0, 0), (5, 3, (4,), 6, None, 0, 0), (6, 1, (0,), 7, None, 0, 0))
        self.assertEqual(remaining(forest, (1,)), (wanted, (0, 2, 3)))

    def test_parents_are_renumbered(self):
        forest = (SINGLE, SINGLE, (3, 1, (2,), 4, 3, 2, 1), (4, 2, (0,), 5, None, 0, 0))
        wanted = ((2, 0, (0,), 1, None, 0, 0), (3, 1, (2,), 4, 2, 2, 1), (4, 2, (0,), 5, None, 0, 0))
        self.assertEqual(remaining(forest, (0,)), (wanted, (1, 2, 3)))
        self.assertEqual(remaining(forest, (1, 0)), ((node_with(wanted[1], parent=1), wanted[2]), (2, 3)))

    def test_a_run_goes_on_in_the_remaining_forest(self):
        for forest in small_forests(5, 5):
            for run in all_runs(forest):
                for length in range(min(len(run) + 1, len(forest))):
                    left, labels = remaining(forest, run[:length])
                    self.assertTrue(is_run(left, tuple(labels.index(label) for label in run[length:])))

    def test_the_runs_of_the_remaining_forest_are_the_ways_to_go_on(self):
        for forest in small_forests(4, 5):
            runs = set(all_runs(forest))
            for run in runs:
                if len(run) < len(forest):
                    left, labels = remaining(forest, run)
                    found = {run + tuple(labels[k] for k in rest) for rest in all_runs(left)}
                    self.assertEqual(found, {other for other in runs if other[:len(run)] == run})

    def test_nothing_remains(self):
        for forest, run in [(F, (0, 1)), (F, (1, 0)), (G, (2, 0, 1)), ((SINGLE,), (0,)), (chain(60), tuple(range(60)))]:
            with self.assertRaises(NothingRemains) as context:
                remaining(forest, run)
            self.assertEqual(context.exception.length, len(forest))

    def test_an_invalid_run_as_long_as_the_forest(self):
        with self.assertRaises(InvalidRun) as context:
            remaining(G, (2, 0, 0))
        self.assertEqual(context.exception.position, (2,))


class Arguments(unittest.TestCase):
    def test_by_name(self):
        self.assertIsNone(check_run(run=(2,), forest=G))
        self.assertTrue(is_run(value=(2,), forest=G))
        self.assertEqual(shown_after(run=(2,), forest=G), (0, 1, None))
        self.assertEqual(removable(run=(2,), forest=G), (0,))
        self.assertEqual(run_weight(run=(2,), forest=G), -1)
        self.assertEqual(remaining(run=(2, 0), forest=G)[1], (1,))

    def test_the_run_of_removable_is_passed_by_name_only(self):
        with self.assertRaises(TypeError):
            removable(G, (2,))

    def test_values_stay_as_they_were(self):
        run = [0, [1], {2: 3}]
        forest = [list(node) for node in G]
        for ask in ASKED_BY_RUN:
            with self.assertRaises(InvalidRun):
                ask(G, run)
            with self.assertRaises(InvalidRun):
                ask(G, (2, run))
            with self.assertRaises(InvalidForest):
                ask(forest, run)
        self.assertEqual(run, [0, [1], {2: 3}])
        self.assertEqual(forest, [list(node) for node in G])

    def test_forests_of_sixty_nodes_are_quick(self):
        rng = random.Random(8)
        forest = random_forest(rng, 60)
        for _ in range(200):
            self.assertTrue(is_run(forest, walk(rng, forest)))


if __name__ == "__main__":
    unittest.main()
