import itertools
import math
import random
import time
import unittest

from dialforest.counts import count_runs
from dialforest.errors import InvalidForest, InvalidRank, InvalidRun, NotClearing, TooLarge
from dialforest.forests import mirror
from dialforest.ranks import MOST_RANKED, next_run, rank_of, run_at
from tests.oracles import clearing_runs
from tests.samples import F, G, MIXED, SINGLE, chain, clearable, downward_forest, free_forest, large_integers
from tests.samples import loose_forests, no_integers, node_with
from tests.samples import random_forest, shapes, small_forests, turning_forest

INVALID = (SINGLE, node_with(SINGLE, shown=2))
ASKED = (run_at, rank_of, next_run)
ASKED_BY_RUN = (rank_of, next_run)


def rank_of_order(order):
    """Return the rank of an order among all orders of the same labels."""
    rank = 0
    for k, label in enumerate(order):
        smaller = sum(other < label for other in order[k:])
        rank += smaller * math.factorial(len(order) - k - 1)
    return rank


class Examples(unittest.TestCase):
    def test_the_examples_of_the_document(self):
        self.assertEqual(run_at(F, 1), (1, 0))
        self.assertEqual(rank_of(F, (1, 0)), 1)
        self.assertEqual(next_run(F, (0, 1)), (1, 0))
        self.assertEqual(MOST_RANKED, 16)


class SmallForests(unittest.TestCase):
    def assert_ranks(self, forest):
        runs = clearing_runs(forest)
        for rank, run in enumerate(runs):
            self.assertEqual(run_at(forest, rank), run)
            self.assertEqual(rank_of(forest, run), rank)
        for run, following in zip(runs, runs[1:] + [None]):
            self.assertEqual(next_run(forest, run), following)
        for rank in (-1, len(runs), len(runs) + 1):
            with self.assertRaises(InvalidRank) as context:
                run_at(forest, rank)
            self.assertEqual(context.exception.rank, rank)
        return len(runs)

    def test_every_rank(self):
        many = [self.assert_ranks(clearable(forest)) for forest in small_forests(5, 6) + loose_forests(5, 5)]
        many += [self.assert_ranks(forest) for forest in small_forests(4, 4) + loose_forests(5, 3) + [G, F]]
        self.assertIn(0, many)
        self.assertGreater(max(many), 50)
        self.assertGreater(many.count(1), 3)

    def test_every_rank_of_several_trees(self):
        for forest in [downward_forest([None, 0, None, 2, 2, None]), free_forest([None, 0, 0, 1, None], [1] * 5)]:
            self.assert_ranks(forest)
            self.assert_ranks(mirror(forest))
        self.assert_ranks(clearable(MIXED))

    def test_a_single_node(self):
        self.assertEqual(run_at((SINGLE,), 0), (0,))
        self.assertEqual(rank_of((SINGLE,), (0,)), 0)
        self.assertIsNone(next_run((SINGLE,), (0,)))

    def test_kinds_of_values(self):
        self.assertIs(type(run_at(F, 0)), tuple)
        self.assertIs(type(run_at(F, 0)[1]), int)
        self.assertIs(type(rank_of(F, (0, 1))), int)
        self.assertIs(type(next_run(F, (0, 1))), tuple)


class LargerForests(unittest.TestCase):
    def test_every_order_clears(self):
        rng = random.Random(101)
        for many in (14, 16):
            for parents in shapes(many):
                forest = free_forest(parents, [1] * many)
                first = tuple(range(many))
                self.assertEqual(run_at(forest, 0), first)
                self.assertEqual(run_at(forest, math.factorial(many) - 1), first[::-1])
                self.assertIsNone(next_run(forest, first[::-1]))
                with self.assertRaises(InvalidRank):
                    run_at(forest, math.factorial(many))
                order = tuple(rng.sample(first, many))
                self.assertEqual(rank_of(forest, order), rank_of_order(order))
                self.assertEqual(run_at(forest, rank_of_order(order)), order)
                self.assertEqual(rank_of_order(next_run(forest, order)), rank_of_order(order) + 1)

    def test_the_last_and_the_first_orders(self):
        forest = free_forest([None, *range(15)], [1] * 16)
        first = tuple(range(16))
        self.assertEqual(next_run(forest, first), first[:14] + (15, 14))
        self.assertEqual(next_run(forest, (0,) + first[:0:-1]), (1, 0) + first[2:])

    def test_there_and_back(self):
        rng = random.Random(102)
        for many in (7, 10, 13, 16):
            for _ in range(4):
                forest = clearable(random_forest(rng, many))
                last = count_runs(forest) - 1
                for rank in {0, last, rng.randint(0, last)}:
                    run = run_at(forest, rank)
                    self.assertEqual(rank_of(forest, run), rank)
                    self.assertEqual(next_run(forest, run), None if rank == last else run_at(forest, rank + 1))

    def test_forests_with_one_clearing_run(self):
        for many in (15, 16):
            forest = downward_forest([None, *range(many - 1)])
            self.assertEqual(run_at(forest, 0), tuple(range(many)))
            self.assertIsNone(next_run(forest, tuple(range(many))))
            self.assertEqual(run_at(mirror(forest), 0), tuple(range(many))[::-1])
            self.assertEqual(rank_of(mirror(forest), tuple(range(many))[::-1]), 0)

    def test_runs_follow_each_other(self):
        parents = [None, 0, 0, 1, 1, 2, 2]
        forest = downward_forest(parents)
        run = run_at(forest, 0)
        found = []
        while run is not None:
            found.append(run)
            run = next_run(forest, run)
        wanted = [
            order for order in itertools.permutations(range(7))
            if all(order.index(parents[label]) < order.index(label) for label in range(1, 7))
        ]
        self.assertEqual(found, wanted)

    def test_sixteen_nodes_are_quick(self):
        began = time.perf_counter()
        for parents in shapes(16):
            forest = turning_forest(parents)
            middle = math.factorial(16) // 2
            run = run_at(forest, middle)
            self.assertEqual(rank_of(forest, run), middle)
            self.assertEqual(rank_of_order(next_run(forest, run)), middle + 1)
        self.assertLess(time.perf_counter() - began, 5)


class Errors(unittest.TestCase):
    def assert_wrong_rank(self, forest, rank):
        with self.assertRaises(InvalidRank) as context:
            run_at(forest, rank)
        self.assertIs(context.exception.rank, rank)

    def assert_wrong_run(self, forest, run, position):
        for ask in ASKED_BY_RUN:
            with self.assertRaises(InvalidRun) as context:
                ask(forest, run)
            self.assertEqual(context.exception.position, position)

    def assert_not_clearing(self, forest, run):
        for ask in ASKED_BY_RUN:
            with self.assertRaises(NotClearing) as context:
                ask(forest, run)
            self.assertEqual(context.exception.length, len(run))

    def test_values_that_are_no_ranks(self):
        for value in no_integers() + large_integers() + [2, 3, (0,), (0, 1)]:
            self.assert_wrong_rank(F, value)

    def test_true_and_false_are_no_ranks(self):
        for forest in (F, G, (SINGLE,), free_forest([None] * 16, [1] * 16)):
            self.assert_wrong_rank(forest, True)
            self.assert_wrong_rank(forest, False)

    def test_no_rank_without_a_clearing_run(self):
        forest = (SINGLE, node_with(SINGLE, shown=1))
        for rank in (0, 1, -1, None, False):
            self.assert_wrong_rank(forest, rank)

    def test_values_that_are_no_runs(self):
        for value in no_integers() + large_integers():
            if not isinstance(value, tuple):
                self.assert_wrong_run(F, value, ())
            else:
                self.assert_wrong_run(F, value, (0,))
        self.assert_wrong_run(F, [0, 1], ())
        self.assert_wrong_run(F, "01", ())

    def test_items_that_cannot_be_removed(self):
        self.assert_wrong_run(F, (0, 0), (1,))
        self.assert_wrong_run(F, (0, 1, 1), (2,))
        self.assert_wrong_run(F, (0, 1, 2), (2,))
        self.assert_wrong_run(F, (2, 0), (0,))
        self.assert_wrong_run(F, (0, True), (1,))
        self.assert_wrong_run(F, (False, 1), (0,))
        self.assert_wrong_run(F, (0, -1), (1,))
        self.assert_wrong_run(G, (0, 1, 2), (0,))
        self.assert_wrong_run(G, (2, 1, 0), (1,))
        for value in no_integers() + large_integers():
            self.assert_wrong_run(F, (1, value), (1,))

    def test_runs_that_do_not_clear(self):
        for forest, run in [(F, ()), (F, (0,)), (F, (1,)), (G, ()), (G, (2,)), (G, (2, 0))]:
            self.assert_not_clearing(forest, run)
        self.assert_not_clearing(free_forest([None] * 16, [1] * 16), tuple(range(15)))

    def test_a_wrong_run_comes_before_one_that_does_not_clear(self):
        self.assert_wrong_run(G, (1,), (0,))
        self.assert_wrong_run(F, (0, 0), (1,))

    def test_seventeen_nodes_are_too_many(self):
        for forest in [(SINGLE,) * 17, chain(17), (SINGLE,) * 60, (node_with(SINGLE, shown=1),) * 17]:
            for ask in ASKED:
                for value in no_integers() + large_integers() + [0, (), (0,), (0, 0), tuple(range(len(forest)))]:
                    with self.assertRaises(TooLarge) as context:
                        ask(forest, value)
                    self.assertEqual(context.exception.limit, 16)

    def test_sixteen_nodes_are_not(self):
        for ask in ASKED_BY_RUN:
            with self.assertRaises(NotClearing):
                ask((SINGLE,) * 16, ())
        self.assertEqual(run_at((SINGLE,) * 16, 0), tuple(range(16)))

    def test_an_invalid_forest_comes_first(self):
        for ask in ASKED:
            for value in [0, None, (), (0, 0), True, [1]]:
                for forest in (INVALID, (SINGLE,) + (node_with(SINGLE, shown=2),) * 20):
                    with self.assertRaises(InvalidForest) as context:
                        ask(forest, value)
                    self.assertEqual(context.exception.path, (1, "shown"))
            for value in no_integers() + large_integers() + [(), list(G), chain(61), (SINGLE,) * 61]:
                with self.assertRaises(InvalidForest):
                    ask(value, 0)

    def test_values_stay_as_they_were(self):
        value = [0, 1]
        for ask in ASKED_BY_RUN:
            with self.assertRaises(InvalidRun):
                ask(F, value)
        self.assert_wrong_rank(F, value)
        self.assertEqual(value, [0, 1])

    def test_by_name(self):
        self.assertEqual(run_at(rank=1, forest=F), (1, 0))
        self.assertEqual(rank_of(run=(1, 0), forest=F), 1)
        self.assertEqual(next_run(run=(0, 1), forest=F), (1, 0))


if __name__ == "__main__":
    unittest.main()
