import random
import unittest

from dialforest.errors import InvalidForest, InvalidPrices, InvalidTable
from dialforest.preparation import check_preparation_table, least_price, preparation_table
from tests.oracles import default_prices, preparation_row_by_words
from tests.samples import F, G, MIXED, SINGLE
from tests.samples import chain, node_with, random_forests, small_forests
from tests.tables import altered, are_vectors, is_entry, no_rows, no_tables, replaced, wrong_label

PRICES = ((7, 8), (1, 2, 3), (5, 4))


def has_form(forest, label, row):
    if type(row) is not tuple or len(row) != 3 or not is_entry(row[0], False):
        return False
    right = row[1] is None if forest[label][4] is None else is_entry(row[1], False)
    return right and are_vectors(row[2], forest, label, False)


def random_prices(rng, forest):
    return tuple(tuple(rng.randint(0, 3) for _ in range(node[0])) for node in forest)


class Cases(unittest.TestCase):
    def assert_wrong(self, forest, table, label, prices=None):
        with self.assertRaises(InvalidTable) as context:
            check_preparation_table(forest, table, prices=prices)
        self.assertEqual(context.exception.label, label)
        self.assertIs(type(context.exception.label), type(label))

    def assert_change(self, path, new, label, forest=G, prices=None):
        """The table is wrong at this label after this change."""
        self.assert_wrong(forest, replaced(preparation_table(forest, prices=prices), path, new), label, prices)

    def assert_all_changes(self, forest, prices=None):
        known = prices or default_prices(forest)
        table = preparation_table(forest, prices=prices)
        for other in altered(table):
            found = wrong_label(forest, other, has_form, lambda *row: preparation_row_by_words(*row, known))
            if found:
                self.assert_wrong(forest, other, found[0], prices)
            else:
                self.assertEqual(other, table)
                check_preparation_table(forest, other, prices=prices)


class Right(Cases):
    def test_the_example_of_the_document(self):
        self.assertEqual(check_preparation_table(G, preparation_table(G)), 0)

    def test_the_table_itself(self):
        rng = random.Random(61)
        for forest in random_forests() + small_forests(5, 4) + [chain(60)]:
            for prices in (None, random_prices(rng, forest)):
                found = check_preparation_table(forest, preparation_table(forest, prices=prices), prices=prices)
                self.assertEqual(found, least_price(forest, prices=prices))

    def test_several_trees_are_added_up(self):
        prices = ((3, 9), (4, 9))
        self.assertEqual(check_preparation_table(F, preparation_table(F, prices=prices), prices=prices), 7)


class Altered(Cases):
    def test_every_change_in_small_forests(self):
        rng = random.Random(62)
        for forest in small_forests(4, 2) + [G, F]:
            self.assert_all_changes(forest)
            self.assert_all_changes(forest, random_prices(rng, forest))

    def test_rows_exchanged(self):
        table = preparation_table(G)
        self.assert_wrong(G, (table[1], table[0], table[2]), 0)
        self.assert_wrong(G, (table[0], table[2], table[1]), 1)
        forest = (node_with(SINGLE, shown=1), SINGLE)
        self.assert_wrong(forest, preparation_table(forest)[::-1], 0)

    def test_the_table_of_another_forest(self):
        forest = tuple(node_with(node, shown=1) if label == 2 else node for label, node in enumerate(G))
        self.assert_wrong(G, preparation_table(forest), 2)
        self.assert_wrong(G, preparation_table(F), None)
        self.assert_wrong(F, preparation_table(G), None)
        self.assert_wrong(G, preparation_table((SINGLE,) * 3), 0)

    def test_the_table_of_other_prices(self):
        self.assert_wrong(G, preparation_table(G, prices=PRICES), 0)
        self.assert_wrong(G, preparation_table(G), 0, PRICES)
        prices = PRICES[:2] + ((6, 4),)
        self.assert_wrong(G, preparation_table(G, prices=PRICES), 2, prices)


class Labels(Cases):
    def test_values_that_are_no_tables(self):
        table = preparation_table(G)
        values = [list(table), table[:2], table + table[:1], table + (None,), {0: table}, (table,), None, "abc"]
        for value in no_tables() + values:
            self.assert_wrong(G, value, None)
            self.assert_wrong(G, value, None, PRICES)

    def test_rows_of_other_kinds(self):
        row = preparation_table(G)[1]
        for value in no_rows() + [list(row), row[:2], row + (None,), (row,), (row[0], row[2], row[1])]:
            self.assert_change((1,), value, 1)
            self.assert_wrong(G, (preparation_table(G)[0], value, None), 1)
            self.assert_wrong(G, (None, value, None), 0)

    def test_late_is_none_exactly_for_a_root(self):
        self.assert_change((0, 1), 0, 0)
        self.assert_change((0, 1), False, 0)
        self.assert_change((1, 1), None, 1)
        table = replaced(preparation_table(F), (0, 0), 9)
        self.assert_wrong(F, replaced(table, (1, 1), 0), 1)
        self.assert_wrong(G, replaced(replaced(preparation_table(G), (0, 0), 9), (2, 1), None), 2)

    def test_none_is_no_price(self):
        self.assert_change((2, 0), None, 2)
        self.assert_change((0, 2, 1, 1), None, 0)
        self.assert_wrong(G, replaced(replaced(preparation_table(G), (0, 0), 9), (1, 2, 0, 2), None), 1)

    def test_true_and_false_are_no_integers(self):
        table = preparation_table(G)
        for path, entry in [((0, 0), False), ((1, 0), True), ((1, 1), False), ((2, 2, 0, 1), True), ((0, 2, 2, 0), False)]:
            self.assert_wrong(G, replaced(table, path, entry), path[0])
            self.assert_wrong(G, replaced(replaced(table, (0, 2, 0, 0), 5), path, entry), path[0])

    def test_a_row_that_does_not_follow_from_those_of_its_children(self):
        self.assert_change((1, 1), -1, 0)
        self.assert_change((2, 0), 7, 0)
        self.assert_change((0, 0), 1, 0)
        self.assert_change((0, 2, 2, 1), 0, 0)

    def test_a_wrong_row_that_its_parent_does_not_show(self):
        self.assert_change((1, 0), 9, 1)
        self.assert_change((1, 2, 0, 2), 0, 1)

    def test_children_with_smaller_labels(self):
        self.assert_change((3, 0), -99, 0, forest=MIXED)
        self.assert_change((0, 0), -99, 0, forest=MIXED)
        self.assert_change((2, 0), -99, 2, forest=MIXED)
        self.assert_change((5, 0), -99, 1, forest=MIXED)

    def test_vectors_of_other_lengths(self):
        self.assert_change((1, 2), ((1, 0, 1),) * 2, 1)
        self.assert_change((1, 2), (), 1)
        self.assert_change((1, 2), ((1, 0),), 1)
        self.assert_change((1, 2), ((1, 0, 1, 1),), 1)
        self.assert_change((1, 2), [(1, 0, 1)], 1)
        self.assert_change((1, 2, 0), [1, 0, 1], 1)
        self.assert_change((0, 2), preparation_table(G)[0][2][:2], 0)

    def test_large_integers(self):
        self.assert_change((2, 0), 10 ** 3999, 0)
        self.assert_change((2, 0), -10 ** 3999, 0)
        self.assert_change((0, 0), 10 ** 3999, 0)
        self.assert_change((2, 2, 0, 1), -10 ** 3999, 2)


class Order(Cases):
    def test_the_forest_and_the_prices_come_first(self):
        for table in [None, (), preparation_table(G)]:
            with self.assertRaises(InvalidForest) as context:
                check_preparation_table((SINGLE, node_with(SINGLE, shown=2)), table, prices=5)
            self.assertEqual(context.exception.path, (1, "shown"))
            with self.assertRaises(InvalidPrices) as context:
                check_preparation_table(G, table, prices=PRICES[:2] + ((5, -4),))
            self.assertEqual(context.exception.path, (2,))
            with self.assertRaises(InvalidPrices) as context:
                check_preparation_table(G, table, prices=())
            self.assertEqual(context.exception.path, ())

    def test_by_name(self):
        table = preparation_table(G, prices=PRICES)
        self.assertEqual(check_preparation_table(prices=PRICES, table=table, forest=G), table[0][0])

    def test_values_stay_as_they_were(self):
        table = [list(row) for row in preparation_table(G)]
        self.assert_wrong(G, table, None)
        self.assert_wrong(G, tuple(table), 0)
        self.assertEqual(table, [list(row) for row in preparation_table(G)])


if __name__ == "__main__":
    unittest.main()
