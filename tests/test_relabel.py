import random
import unittest
from itertools import permutations

from dialforest.errors import InvalidForest, InvalidOrder
from dialforest.forests import is_forest, relabel
from tests.samples import F, G, MIXED, SINGLE
from tests.samples import chain, large_integers, no_integers, node_with, random_forests


def inverse(order):
    return tuple(order.index(label) for label in range(len(order)))


class Relabel(unittest.TestCase):
    def check(self, forest, order):
        found = relabel(forest, order)
        self.assertTrue(is_forest(found))
        for k, old in enumerate(order):
            parent = forest[old][4]
            wanted = None if parent is None else order.index(parent)
            self.assertEqual(found[k], node_with(forest[old], parent=wanted))
        self.assertEqual(relabel(found, inverse(order)), forest)

    def test_example(self):
        wanted = ((3, 1, (0,), 5, 1, 2, 1), (2, 1, (0,), 3, None, 0, 0), (2, 0, (0,), -1, 1, 1, 1))
        self.assertEqual(relabel(G, (1, 0, 2)), wanted)

    def test_every_order_of_small_forests(self):
        for forest in (G, F, MIXED, (SINGLE,)):
            for order in permutations(range(len(forest))):
                self.check(forest, order)

    def test_an_order_that_is_not_its_own_inverse(self):
        found = relabel(chain(3), (1, 2, 0))
        self.assertEqual([node[4] for node in found], [2, 0, None])

    def test_orders_of_forests_of_any_shape(self):
        rng = random.Random(11)
        for forest in random_forests():
            order = list(range(len(forest)))
            self.assertEqual(relabel(forest, tuple(order)), forest)
            self.check(forest, tuple(reversed(order)))
            rng.shuffle(order)
            self.check(forest, tuple(order))

    def test_by_name(self):
        self.assertEqual(relabel(order=(0, 1, 2), forest=G), G)


class WrongOrders(unittest.TestCase):
    def assert_no_order(self, forest, order):
        with self.assertRaises(InvalidOrder) as context:
            relabel(forest, order)
        self.assertIs(context.exception.order, order)

    def test_an_item_wrong_repeated_missing_or_too_many(self):
        wrong = [(), (0,), (0, 1), (0, 1, 2, 3), (0, 1, 2, 2), (0, 1, 1), (0, 0, 0), (2, 2, 1), (0, 1, 3), (1, 2, 3),
                 (-1, 0, 1), (0, 1, -1), (0, 1, 2, 0)]
        for order in wrong:
            self.assert_no_order(G, order)
        self.assert_no_order((SINGLE,), ())
        self.assert_no_order((SINGLE,), (1,))
        self.assert_no_order((SINGLE,), (0, 0))

    def test_an_item_of_another_kind(self):
        for item in no_integers() + large_integers():
            for order in ((item, 1, 2), (0, item, 2), (0, 1, item)):
                self.assert_no_order(G, order)
        self.assert_no_order(F, (0, True))
        self.assert_no_order(F, (False, 1))
        self.assert_no_order(F, (True, False))

    def test_values_that_are_no_tuples(self):
        for order in no_integers() + large_integers() + [0, [0, 1, 2], {0: 0, 1: 1, 2: 2}, "012", range(3)]:
            self.assert_no_order(G, order)
        self.assert_no_order(F, {0, 1})

    def test_an_invalid_forest_comes_first(self):
        for order in ((0, 1), (0,), None, [1, 0], (True, 0)):
            with self.assertRaises(InvalidForest) as context:
                relabel((SINGLE, node_with(SINGLE, weight=None)), order)
            self.assertEqual(context.exception.path, (1, "weight"))

    def test_values_stay_as_they_were(self):
        order = [2, 1, 0]
        self.assert_no_order(G, order)
        self.assertEqual(order, [2, 1, 0])
        inside = (0, [1], 2)
        self.assert_no_order(G, inside)
        self.assertEqual(inside, (0, [1], 2))


if __name__ == "__main__":
    unittest.main()
