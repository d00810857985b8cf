import random
import unittest

from dialforest.errors import InvalidForest, InvalidSelection, InvalidTable, Unreachable
from dialforest.reach import check_reach_table, greatest_weight, reach_table
from tests.oracles import reach_row_by_words
from tests.samples import F, G, MIXED, SINGLE
from tests.samples import chain, node_with, random_forests, selections, small_forests
from tests.tables import altered, are_vectors, is_entry, no_rows, no_tables, replaced, wrong_label


def has_form(forest, label, row):
    if type(row) is not tuple or len(row) != 4:
        return False
    return all(is_entry(entry, True) for entry in row[:3]) and are_vectors(row[3], forest, label, True)


class Cases(unittest.TestCase):
    def assert_wrong(self, forest, table, label, **selection):
        with self.assertRaises(InvalidTable) as context:
            check_reach_table(forest, table, **selection)
        self.assertEqual(context.exception.label, label)
        self.assertIs(type(context.exception.label), type(label))

    def assert_change(self, path, new, label, forest=G, **selection):
        """The table is wrong at this label after this change."""
        self.assert_wrong(forest, replaced(reach_table(forest, **selection), path, new), label, **selection)

    def assert_all_changes(self, forest, required=(), forbidden=()):
        selection = {"required": required, "forbidden": forbidden}
        table = reach_table(forest, **selection)
        for other in altered(table):
            found = wrong_label(
                forest, other, has_form, lambda *row: reach_row_by_words(*row, required, forbidden)
            )
            if found:
                self.assert_wrong(forest, other, found[0], **selection)
            else:
                self.assertEqual(other, table)
                check_reach_table(forest, other, **selection)


class Right(Cases):
    def test_the_example_of_the_document(self):
        self.assertEqual(check_reach_table(G, reach_table(G)), 7)

    def test_the_table_itself(self):
        rng = random.Random(41)
        for forest in random_forests() + small_forests(5, 4) + [chain(60)]:
            for required, forbidden in selections(rng, len(forest), 2):
                selection = {"required": required, "forbidden": forbidden}
                found = check_reach_table(forest, reach_table(forest, **selection), **selection)
                try:
                    self.assertEqual(found, greatest_weight(forest, **selection))
                except Unreachable:
                    self.assertIsNone(found)

    def test_an_unreachable_selection(self):
        selection = {"required": (1,), "forbidden": (0,)}
        self.assertIsNone(check_reach_table(G, reach_table(G, **selection), **selection))

    def test_one_unreachable_tree_of_two(self):
        forest = (SINGLE, (2, 1, (0,), 1, None, 0, 0))
        self.assertIsNone(check_reach_table(forest, reach_table(forest, required=(1,)), required=(1,)))
        self.assertEqual(check_reach_table(forest, reach_table(forest, required=(0,)), required=(0,)), 1)


class Altered(Cases):
    def test_every_change_in_small_forests(self):
        rng = random.Random(42)
        for forest in small_forests(4, 2) + [G, F]:
            for required, forbidden in selections(rng, len(forest), 1):
                self.assert_all_changes(forest, required, forbidden)

    def test_rows_exchanged(self):
        table = reach_table(G)
        self.assert_wrong(G, (table[1], table[0], table[2]), 0)
        self.assert_wrong(G, (table[0], table[2], table[1]), 1)
        self.assert_wrong(MIXED, reach_table(MIXED)[::-1], 0)

    def test_the_table_of_another_forest(self):
        forest = tuple(node_with(node, weight=node[3] + 1) if label == 2 else node for label, node in enumerate(G))
        self.assert_wrong(G, reach_table(forest), 2)
        self.assert_wrong(G, reach_table(F), None)
        self.assert_wrong(F, reach_table(G), None)
        self.assert_wrong(G, reach_table((SINGLE,) * 3), 0)
        self.assert_wrong(chain(60), reach_table(chain(59) + (SINGLE,)), 58)

    def test_the_table_of_another_selection(self):
        self.assert_wrong(G, reach_table(G, required=(1,)), 1)
        self.assert_wrong(G, reach_table(G), 2, forbidden=(2,))
        self.assert_wrong(F, reach_table(F, required=(0,)), 0, required=(1,))
        self.assert_wrong(F, reach_table(F), 1, required=(1,))


class Labels(Cases):
    def test_values_that_are_no_tables(self):
        for value in no_tables():
            self.assert_wrong(G, value, None)
        table = reach_table(G)
        for value in (list(table), table[:2], table + table[:1], table + (None,), {0: table}, (table,), None, "abc"):
            self.assert_wrong(G, value, None)

    def test_rows_of_other_kinds(self):
        for value in no_rows() + [list(reach_table(G)[1]), reach_table(G)[1][:3], reach_table(G)[1] + (None,)]:
            self.assert_change((1,), value, 1)
            self.assert_wrong(G, (reach_table(G)[0], value, None), 1)
            self.assert_wrong(G, (None, value, None), 0)

    def test_a_row_without_the_form_comes_before_one_that_does_not_follow(self):
        table = replaced(reach_table(G), (0, 0), 99)
        self.assert_wrong(G, table, 0)
        self.assert_wrong(G, replaced(table, (2, 0), True), 2)
        self.assert_wrong(G, replaced(table, (1, 3, 0, 1), "5"), 1)
        self.assert_wrong(G, replaced(replaced(table, (2,), ()), (1,), ()), 1)

    def test_true_and_false_are_no_integers(self):
        table = reach_table(F)
        for place, entry in [((0, 0), False), ((0, 1), True), ((0, 3, 0, 0), True), ((1, 0), False), ((1, 1), True)]:
            self.assert_wrong(F, replaced(table, place, entry), place[0])

    def test_a_row_that_does_not_follow_from_those_of_its_children(self):
        self.assert_change((1, 0), 1, 0)
        self.assert_change((1, 0), -3, 0)
        self.assert_change((1, 2), 6, 0)
        self.assert_change((2, 1), -2, 0)
        self.assert_change((0, 1), 8, 0)
        self.assert_change((0, 3, 2, 0), None, 0)

    def test_a_wrong_row_that_its_parent_does_not_show(self):
        # `early` of the child stays below `stay`, and the parent cannot be removed, so its row stays the same.
        forest = ((2, 1, (0,), 1, None, 0, 0), (2, 0, (0,), -5, 0, 0, 0))
        self.assert_change((1, 1), -6, 1, forest=forest, forbidden=(0,))
        self.assert_change((1, 3, 0, 0), -6, 1, forest=forest)

    def test_children_with_smaller_labels(self):
        table = reach_table(MIXED)
        self.assert_change((0, 1), 1, 0, forest=MIXED)
        self.assert_change((3, 0), 1, 0, forest=MIXED)
        self.assert_change((2, 0), 1, 2, forest=MIXED)
        self.assert_change((5, 0), 1, 1, forest=MIXED)
        self.assertEqual(check_reach_table(MIXED, table), greatest_weight(MIXED))

    def test_late_of_a_root_may_have_the_form_of_an_integer(self):
        self.assert_change((1, 2), 0, 1, forest=F)
        self.assert_wrong(F, replaced(replaced(reach_table(F), (0, 2), 0), (1, 2), False), 1)

    def test_none_where_a_weight_belongs(self):
        self.assert_change((0, 0), None, 0)
        self.assert_change((2, 0), None, 0)
        self.assert_change((2, 1), None, 0)
        self.assert_change((1, 3, 0, 1), None, 1)

    def test_vectors_of_other_lengths(self):
        self.assert_change((1, 3), ((None, 5, None),) * 2, 1)
        self.assert_change((1, 3), (), 1)
        self.assert_change((1, 3), ((None, 5),), 1)
        self.assert_change((1, 3), ((None, 5, None, None),), 1)
        self.assert_change((0, 3), reach_table(G)[0][3][:2], 0)
        self.assert_change((0, 3), list(reach_table(G)[0][3]), 0)
        self.assert_change((0, 3, 1), [None, 8], 0)

    def test_large_integers(self):
        for value in (10 ** 3999, -10 ** 3999):
            self.assert_change((1, 0), value, 0)
            self.assert_change((0, 1), value, 0)
            self.assert_change((2, 3, 0, 1), value, 2)


class Order(Cases):
    def test_the_forest_and_the_selection_come_first(self):
        for table in [None, (), reach_table(G)]:
            with self.assertRaises(InvalidForest) as context:
                check_reach_table((SINGLE, node_with(SINGLE, shown=2)), table, required=None)
            self.assertEqual(context.exception.path, (1, "shown"))
            with self.assertRaises(InvalidSelection) as context:
                check_reach_table(G, table, required=(0,), forbidden=(0,))
            self.assertEqual(context.exception.name, "both")

    def test_by_name(self):
        table = reach_table(G, required=(0,), forbidden=(1,))
        self.assertEqual(check_reach_table(forbidden=(1,), required=(0,), table=table, forest=G), 2)

    def test_values_stay_as_they_were(self):
        table = [list(row) for row in reach_table(G)]
        self.assert_wrong(G, table, None)
        self.assert_wrong(G, tuple(table), 0)
        self.assertEqual(table, [list(row) for row in reach_table(G)])


if __name__ == "__main__":
    unittest.main()
