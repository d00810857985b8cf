import random
import time
import unittest

from dialforest.errors import InvalidForest, InvalidNumbers, InvalidPrices
from dialforest.forests import validate
from dialforest.preparation import MOST_PRICE, check_preparation_table, least_preparation, least_price
from dialforest.preparation import preparation_table, prepared
from dialforest.reach import greatest_weight, traced_run
from tests.oracles import can_be_cleared, default_prices, preparation_by_trying, preparation_row_by_trying
from tests.oracles import preparation_row_by_words
from tests.samples import F, G, MIXED, SINGLE
from tests.samples import chain, free_forest, large_integers, no_integers, node_with
from tests.samples import random_forests, small_forests

INVALID = (SINGLE, node_with(SINGLE, shown=2))


def with_table(forest, **prices):
    return check_preparation_table(forest, None, **prices)


ASKED_BY_PRICES = (preparation_table, least_price, least_preparation, with_table)


def random_prices(rng, forest, most):
    """Return prices from 0 to `most`, both bounds among them."""
    return tuple(tuple(rng.choice([0, most, rng.randint(0, most)]) for _ in range(node[0])) for node in forest)


def price_of(numbers, prices):
    return sum(row[number] for row, number in zip(prices, numbers))


def clears(forest):
    """Return whether some run clears the forest: whether a run contains every label."""
    return len(traced_run(forest, required=tuple(range(len(forest))))) == len(forest)


class Examples(unittest.TestCase):
    def test_the_examples_of_the_document(self):
        self.assertEqual(prepared(G, (0, 0, 0))[0], (2, 0, (0,), 3, None, 0, 0))
        self.assertEqual(preparation_table(G)[1], (1, 0, ((1, 0, 1),)))
        self.assertEqual(least_price(G), 0)
        self.assertEqual(least_preparation(G), (1, 1, 0))
        self.assertEqual(least_preparation(((2, 1, (0,), 1, None, 0, 0),)), (0,))
        self.assertEqual(check_preparation_table(G, preparation_table(G)), 0)
        self.assertEqual(MOST_PRICE, 10 ** 12)


class Prepared(unittest.TestCase):
    def assert_wrong(self, forest, numbers, path):
        with self.assertRaises(InvalidNumbers) as context:
            prepared(forest, numbers)
        self.assertEqual(context.exception.path, path)

    def test_only_the_shown_numbers_change(self):
        rng = random.Random(51)
        for forest in random_forests():
            numbers = tuple(rng.randrange(node[0]) for node in forest)
            wanted = tuple(node_with(node, shown=number) for node, number in zip(forest, numbers))
            found = prepared(forest, numbers)
            self.assertEqual(found, wanted)
            self.assertIs(type(found), tuple)
            validate(found)

    def test_the_numbers_at_the_bounds(self):
        for forest in random_forests():
            for numbers in (tuple(0 for _ in forest), tuple(node[0] - 1 for node in forest)):
                self.assertEqual(tuple(node[1] for node in prepared(forest, numbers)), numbers)

    def test_the_same_numbers_give_the_same_forest(self):
        self.assertEqual(prepared(MIXED, tuple(node[1] for node in MIXED)), MIXED)

    def test_values_that_are_no_tuples_of_one_item_for_each_node(self):
        others = [value for value in no_integers() if not isinstance(value, tuple)]
        values = [(), (0,), (0, 0), (0,) * 4, [0, 0, 0], {0, 1, 2}, "000", range(3), 0, (0,) * 100000]
        for value in others + large_integers() + values:
            self.assert_wrong(G, value, ())

    def test_items_that_are_no_numbers(self):
        for item in no_integers() + large_integers() + [3, 12, (), (0,), [], "0"]:
            self.assert_wrong(G, (0, item, 0), (1,))
            self.assert_wrong(G, (item, item, 0), (0,))
            self.assert_wrong(G, (1, 2, item), (2,))
            self.assert_wrong((SINGLE,), (item,), (0,))

    def test_the_bounds_are_those_of_each_dial(self):
        self.assert_wrong(G, (2, 2, 1), (0,))
        self.assert_wrong(G, (1, 3, 1), (1,))
        self.assert_wrong(G, (1, 2, 2), (2,))
        self.assert_wrong(G, (1, 2, -1), (2,))
        self.assertEqual(prepared(G, (1, 2, 1))[1][1], 2)

    def test_true_and_false_are_no_numbers(self):
        self.assert_wrong(F, (True, False), (0,))
        self.assert_wrong(F, (0, False), (1,))

    def test_an_invalid_forest_comes_first(self):
        for numbers in [(0, 0), None, (), (5, 5)]:
            with self.assertRaises(InvalidForest) as context:
                prepared(INVALID, numbers)
            self.assertEqual(context.exception.path, (1, "shown"))


class Rows(unittest.TestCase):
    def assert_rows(self, forest, table, prices):
        self.assertIs(type(table), tuple)
        self.assertEqual(len(table), len(forest))
        for label, row in enumerate(table):
            self.assertEqual(row, preparation_row_by_words(forest, label, table, prices))

    def test_against_all_numbers_and_orders_of_small_forests(self):
        rng = random.Random(52)
        for forest in small_forests(4, 6):
            prices = random_prices(rng, forest, 5)
            for given, known in [(None, default_prices(forest)), (prices, prices)]:
                for label, row in enumerate(preparation_table(forest, prices=given)):
                    self.assertEqual(row, preparation_row_by_trying(forest, label, known))

    def test_against_the_words_for_forests_of_up_to_sixty_nodes(self):
        rng = random.Random(53)
        for forest in random_forests() + [chain(60), MIXED]:
            self.assert_rows(forest, preparation_table(forest), default_prices(forest))
            prices = random_prices(rng, forest, MOST_PRICE)
            self.assert_rows(forest, preparation_table(forest, prices=prices), prices)

    def test_the_whole_table_of_a_small_forest(self):
        wanted = ((0, None, ((1, 0), (1, 0), (0, 1))), (1, 0, ((1, 0, 1),)), (0, 1, ((0, 1),)))
        self.assertEqual(preparation_table(G)[1:], wanted[1:])
        self.assertEqual(preparation_table(G)[0], (0, None, ((1, 0), (1, 0), (0, 1))))

    def test_given_prices_are_the_first_vector(self):
        prices = ((7, 8), (1, 2, 3), (5, 4))
        table = preparation_table(G, prices=prices)
        self.assertEqual([row[2][0] for row in table], list(prices))
        self.assertEqual(table[1], (1, 2, ((1, 2, 3),)))
        self.assertEqual(table[2], (5, 4, ((5, 4),)))

    def test_late_is_none_for_a_root_only(self):
        self.assertEqual(preparation_table(F), ((0, None, ((0, 1),)),) * 2)
        self.assertEqual([row[1] is None for row in preparation_table(MIXED)], [False, True, False, False, True, False])


class Least(unittest.TestCase):
    def assert_least(self, forest, prices):
        price, numbers = preparation_by_trying(forest, prices or default_prices(forest))
        self.assertEqual(least_price(forest, prices=prices), price)
        self.assertEqual(least_preparation(forest, prices=prices), numbers)

    def test_against_all_numbers_and_orders_of_small_forests(self):
        rng = random.Random(54)
        for forest in small_forests(4, 12):
            self.assert_least(forest, None)
            for most in (1, 2, 1000):
                self.assert_least(forest, random_prices(rng, forest, most))

    def test_a_forest_that_can_be_cleared_costs_nothing_and_stays(self):
        rng = random.Random(55)
        found = 0
        for forest in small_forests(5, 20):
            if can_be_cleared(forest):
                self.assertEqual(least_price(forest), 0)
                self.assertEqual(least_preparation(forest), tuple(node[1] for node in forest))
                found += 1
            else:
                self.assertGreater(least_price(forest), 0)
            self.assertEqual(least_price(forest, prices=random_prices(rng, forest, 0)), 0)
        self.assertGreater(found, 10)

    def test_the_smallest_of_equally_cheap_tuples(self):
        free = tuple((0,) * node[0] for node in G)
        forest = tuple(node_with(node, allowed=(1,)) for node in G)
        self.assertEqual(least_preparation(forest, prices=free), preparation_by_trying(forest, free)[1])
        self.assertEqual(least_preparation(chain(60), prices=((0, 0),) * 60), (0,) * 60)
        forest = ((12, 0, (11,), 1, None, 0, 0), (12, 0, (10, 11), 1, None, 0, 0), (2, 0, (1,), 1, None, 0, 0))
        prices = ((0,) * 12, (0,) * 12, (0,) * 2)
        self.assertEqual(least_preparation(forest, prices=prices), (11, 10, 1))
        # Label 0 shows the smaller number if label 1 is removed first, label 1 if label 0 is: label 0 counts more.
        forest = ((3, 0, (2,), 1, None, 0, 0), (3, 0, (2,), 1, 0, 2, 2))
        self.assertEqual(least_preparation(forest, prices=((0,) * 3,) * 2), (0, 2))
        forest = ((3, 0, (2,), 1, 1, 2, 2), (3, 0, (2,), 1, None, 0, 0))
        self.assertEqual(least_preparation(forest, prices=((0,) * 3,) * 2), (0, 2))

    def test_a_lower_price_counts_more_than_a_smaller_tuple(self):
        forest = ((3, 0, (0, 2), 1, None, 0, 0),) * 60
        prices = ((1, 0, 0),) * 60
        self.assertEqual(least_preparation(forest, prices=prices), (2,) * 60)
        prices = ((MOST_PRICE, 0, MOST_PRICE - 1),) * 60
        self.assertEqual(least_preparation(forest, prices=prices), (2,) * 60)
        self.assertEqual(least_price(forest, prices=prices), 60 * (MOST_PRICE - 1))

    def test_the_default_prices(self):
        forest = ((3, 1, (0,), 1, None, 0, 0), (3, 2, (1,), 1, None, 0, 0))
        self.assertEqual(least_price(forest), 2)
        self.assertEqual(least_preparation(forest), (0, 1))
        for forest in small_forests(5, 3) + random_forests():
            prices = default_prices(forest)
            self.assertEqual(least_price(forest), least_price(forest, prices=prices))
            self.assertEqual(least_preparation(forest), least_preparation(forest, prices=prices))
            self.assertEqual(preparation_table(forest), preparation_table(forest, prices=prices))
            self.assertEqual(least_price(forest, prices=None), least_price(forest))

    def test_up_to_sixty_nodes(self):
        rng = random.Random(56)
        for forest in random_forests() + [chain(60)]:
            for prices in (None, random_prices(rng, forest, MOST_PRICE), random_prices(rng, forest, 1)):
                numbers = least_preparation(forest, prices=prices)
                self.assertIs(type(numbers), tuple)
                self.assertTrue(clears(prepared(forest, numbers)))
                known = prices or default_prices(forest)
                self.assertEqual(price_of(numbers, known), least_price(forest, prices=prices))

    def test_no_smaller_tuple_of_sixty_is_as_cheap(self):
        rng = random.Random(57)
        forest = random_forests()[-1]
        self.assertEqual(len(forest), 60)
        prices = random_prices(rng, forest, 2)
        price = least_price(forest, prices=prices)
        numbers = least_preparation(forest, prices=prices)
        fixed = []
        for label, number in enumerate(numbers):
            for other in range(number):
                row = tuple(prices[label][k] if k == other else MOST_PRICE for k in range(forest[label][0]))
                self.assertGreater(least_price(forest, prices=(*fixed, row, *prices[label + 1:])), price)
            fixed.append(tuple(prices[label][k] if k == number else MOST_PRICE for k in range(forest[label][0])))
        self.assertEqual(least_price(forest, prices=tuple(fixed)), price)

    def test_sixty_nodes_are_quick(self):
        began = time.perf_counter()
        for parents in ([None] * 60, [None] + [0] * 59, [None, *range(59)], [59] * 59 + [None], [*range(1, 60), None]):
            forest = tuple(
                (12, 11, (3, 7), 1, parent, 0 if parent is None else 5, 0 if parent is None else 7)
                for parent in parents
            )
            self.assertTrue(clears(prepared(forest, least_preparation(forest))))
            self.assertTrue(clears(prepared(forest, least_preparation(forest, prices=((0,) * 12,) * 60))))
        self.assertLess(time.perf_counter() - began, 5)

    def test_a_prepared_forest_can_have_any_weight(self):
        forest = free_forest([None, 0, 1], [-1, -2, -3])
        self.assertEqual(least_price(forest), 0)
        self.assertEqual(greatest_weight(forest), 0)


class Prices(unittest.TestCase):
    def assert_wrong(self, forest, prices, path):
        for ask in ASKED_BY_PRICES:
            with self.assertRaises(InvalidPrices) as context:
                ask(forest, prices=prices)
            self.assertEqual(context.exception.path, path)

    def test_values_that_are_no_tuples_of_one_item_for_each_node(self):
        others = [value for value in no_integers() if value is not None and not isinstance(value, tuple)]
        right = default_prices(G)
        values = [(), right[:2], right + right[:1], list(right), {}, 0, "", (0,) * 100000]
        for value in others + large_integers() + values:
            self.assert_wrong(G, value, ())

    def test_items_that_are_no_prices_of_a_dial(self):
        right = ((1, 2), (3, 4, 5), (6, 7))
        for item in no_integers() + large_integers() + [(), (3, 4), (3, 4, 5, 6), [3, 4, 5], 3, "345", (0,) * 100000]:
            self.assert_wrong(G, (right[0], item, right[2]), (1,))
            self.assert_wrong((node_with(SINGLE, size=3), G[0]), (item, item), (0,))
        self.assert_wrong(G, (right[1], right[0], right[2]), (0,))
        self.assert_wrong(G, (right[0], right[0], right[1]), (1,))
        self.assert_wrong(G, right[:2] + (right[1],), (2,))

    def test_prices_out_of_range(self):
        for price in large_integers() + no_integers() + [MOST_PRICE + 1, -1, "1", (1,), [1]]:
            self.assert_wrong(G, ((1, 2), (3, 4, price), (6, 7)), (1,))
            self.assert_wrong(G, ((price, 2), (3, 4, price), (6, 7)), (0,))
            self.assert_wrong(G, ((1, 2), (3, 4, 5), (6, price)), (2,))

    def test_true_and_false_are_no_prices(self):
        self.assert_wrong(F, ((0, True), (0, 1)), (0,))
        self.assert_wrong(F, ((0, 1), (False, 1)), (1,))

    def test_prices_at_both_bounds(self):
        prices = ((MOST_PRICE, 0), (0, MOST_PRICE))
        self.assertEqual(least_price(F, prices=prices), MOST_PRICE)
        self.assertEqual(least_preparation(F, prices=prices), (0, 0))
        self.assertEqual(preparation_table(F, prices=prices)[0], (MOST_PRICE, None, ((MOST_PRICE, 0),)))
        self.assertEqual(least_price(chain(60), prices=((MOST_PRICE,) * 2,) * 60), 60 * MOST_PRICE)

    def test_an_invalid_forest_comes_first(self):
        for prices in [None, (), ((0, 1),), ((0, 1), (0, -1)), 5]:
            for ask in ASKED_BY_PRICES:
                with self.assertRaises(InvalidForest) as context:
                    ask(INVALID, prices=prices)
                self.assertEqual(context.exception.path, (1, "shown"))

    def test_values_that_are_no_forests(self):
        for value in no_integers() + large_integers() + [(), list(G), chain(61)]:
            for ask in ASKED_BY_PRICES:
                with self.assertRaises(InvalidForest):
                    ask(value)
            with self.assertRaises(InvalidForest):
                prepared(value, ())


class Arguments(unittest.TestCase):
    def test_by_name(self):
        prices = ((0, 1), (1, 0))
        self.assertEqual(prepared(numbers=(1, 1), forest=F)[0][1], 1)
        self.assertEqual(preparation_table(prices=prices, forest=F)[1], (1, None, ((1, 0),)))
        self.assertEqual(least_price(prices=prices, forest=F), 1)
        self.assertEqual(least_preparation(prices=prices, forest=F), (0, 0))

    def test_the_prices_are_passed_by_name_only(self):
        for ask in (preparation_table, least_price, least_preparation):
            with self.assertRaises(TypeError):
                ask(F, None)
        with self.assertRaises(TypeError):
            check_preparation_table(F, preparation_table(F), None)

    def test_values_stay_as_they_were(self):
        numbers = [0, [0], 0]
        prices = [[1, 2], [3, 4, 5], [6, 7]]
        with self.assertRaises(InvalidNumbers):
            prepared(G, numbers)
        with self.assertRaises(InvalidNumbers):
            prepared(G, (0, 0, numbers))
        for ask in ASKED_BY_PRICES:
            with self.assertRaises(InvalidPrices):
                ask(G, prices=prices)
            with self.assertRaises(InvalidPrices):
                ask(G, prices=tuple(prices))
        self.assertEqual(numbers, [0, [0], 0])
        self.assertEqual(prices, [[1, 2], [3, 4, 5], [6, 7]])


if __name__ == "__main__":
    unittest.main()
