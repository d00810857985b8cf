import random
import unittest

from dialforest.errors import InvalidForest, InvalidSelection
from dialforest.forests import MOST_WEIGHT
from dialforest.reach import best_run, check_reach_table, greatest_weight, reach_table, traced_run
from tests.oracles import reach_row_by_trying, reach_row_by_words
from tests.samples import F, G, MIXED, SINGLE
from tests.samples import chain, forest_with, free_forest, large_integers, no_integers, node_with
from tests.samples import random_forests, selections, small_forests

INVALID = (SINGLE, node_with(SINGLE, shown=2))


def with_table(forest, **selection):
    return check_reach_table(forest, None, **selection)


ASKED_BY_SELECTION = (reach_table, greatest_weight, best_run, traced_run, with_table)


class Examples(unittest.TestCase):
    def test_the_examples_of_the_document(self):
        self.assertEqual(reach_table(G)[2], (0, -1, None, ((-1, None),)))
        with self.assertRaises(InvalidSelection) as context:
            greatest_weight(G, required=(1,), forbidden=(0, 1))
        self.assertEqual(context.exception.name, "both")


class Rows(unittest.TestCase):
    def assert_rows(self, forest, required=(), forbidden=()):
        table = reach_table(forest, required=required, forbidden=forbidden)
        self.assertIs(type(table), tuple)
        self.assertEqual(len(table), len(forest))
        for label, row in enumerate(table):
            self.assertEqual(row, reach_row_by_words(forest, label, table, required, forbidden))
        return table

    def test_against_a_search_over_all_sets_of_a_subtree(self):
        rng = random.Random(21)
        for forest in small_forests(5, 6):
            for required, forbidden in selections(rng, len(forest), 3):
                table = self.assert_rows(forest, required, forbidden)
                for label, row in enumerate(table):
                    self.assertEqual(row, reach_row_by_trying(forest, label, required, forbidden))

    def test_against_the_words_for_forests_of_up_to_sixty_nodes(self):
        rng = random.Random(22)
        for forest in random_forests() + [chain(60), MIXED]:
            for required, forbidden in selections(rng, len(forest), 3):
                self.assert_rows(forest, required, forbidden)

    def test_the_whole_table_of_a_small_forest(self):
        wanted = (
            (0, 7, None, ((None, 3), (2, 3), (2, None))),
            (0, None, 5, ((None, 5, None),)),
            (0, -1, None, ((-1, None),)),
        )
        self.assertEqual(reach_table(G)[1:], wanted[1:])
        self.assertEqual(reach_table(G)[0], (0, 7, None, ((None, 3), (None, 8), (7, 8))))

    def test_a_single_node(self):
        self.assertEqual(reach_table(((3, 1, (1, 2), 9, None, 0, 0),)), ((0, 9, None, ((None, 9, None),)),))
        self.assertEqual(reach_table(((3, 0, (1, 2), 9, None, 0, 0),)), ((0, None, None, ((9, None, None),)),))

    def test_late_is_none_for_a_root(self):
        for row in reach_table(F):
            self.assertEqual(row, (0, 1, None, ((1, None),)))

    def test_down_makes_late(self):
        forest = (SINGLE, (3, 1, (0,), 5, 0, 2, 0))
        self.assertEqual(reach_table(forest)[1], (0, None, 5, ((None, 5, None),)))
        self.assertEqual(reach_table(forest_with(forest, 1, down=1))[1], (0, None, None, ((None, 5, None),)))
        self.assertEqual(reach_table(forest_with(forest, 1, down=0, shown=0))[1], (0, 5, 5, ((5, None, None),)))

    def test_children_are_taken_in_by_ascending_labels(self):
        forest = ((4, 0, (0,), 1, 2, 0, 1), (4, 0, (0,), 2, 2, 0, 2), (5, 0, (0,), 4, None, 0, 0))
        wanted = ((4, None, None, None, None), (5, 5, None, None, None), (7, 7, 7, 7, None))
        self.assertEqual(reach_table(forest)[2], (3, 7, None, wanted))

    def test_negative_weights(self):
        forest = ((2, 0, (0, 1), -3, None, 0, 0), (2, 0, (0, 1), -5, 0, 1, 1))
        self.assertEqual(reach_table(forest)[0], (0, -3, None, ((-3, None), (-3, -8))))

    def test_weights_at_the_bounds(self):
        forest = free_forest([None] + [0] * 59, [MOST_WEIGHT] * 60)
        row = reach_table(forest)[0]
        self.assertEqual(row[:3], (59 * MOST_WEIGHT, 60 * MOST_WEIGHT, None))
        self.assertEqual(row[3][-1][0], 60 * MOST_WEIGHT)


class SelectedRows(unittest.TestCase):
    def test_a_required_node_does_not_stay(self):
        self.assertEqual(reach_table(F, required=(0,)), ((None, 1, None, ((1, None),)), (0, 1, None, ((1, None),))))

    def test_a_forbidden_node_has_vectors_of_none(self):
        self.assertEqual(reach_table(F, forbidden=(0,))[0], (0, None, None, ((None, None),)))
        row = reach_table(G, forbidden=(0,))[0]
        self.assertEqual(row, (0, None, None, ((None, None),) * 3))

    def test_stay_is_none_if_a_child_neither_stays_nor_is_early(self):
        table = reach_table(G, required=(1,))
        self.assertEqual(table[1], (None, None, 5, ((None, 5, None),)))
        self.assertEqual(table[0][0], None)

    def test_a_table_exists_for_an_unreachable_selection(self):
        self.assertEqual(reach_table(G, required=(1,), forbidden=(0,))[0], (None, None, None, ((None, None),) * 3))

    def test_both_kinds_at_once(self):
        table = reach_table(G, required=(0,), forbidden=(2,))
        self.assertEqual(table[0], (None, None, None, ((None, 3), (None, 8), (None, 8))))

    def test_the_default_selection_is_empty(self):
        for forest in small_forests(5, 2):
            self.assertEqual(reach_table(forest), reach_table(forest, required=(), forbidden=()))


class Selections(unittest.TestCase):
    def assert_wrong(self, forest, name, **selection):
        for ask in ASKED_BY_SELECTION:
            with self.assertRaises(InvalidSelection) as context:
                ask(forest, **selection)
            self.assertEqual(context.exception.name, name)

    def test_values_that_are_no_ascending_tuples_of_labels(self):
        wrong = [(1, 0), (0, 0), (0, 2, 1), (0, 1, 1), (2, 2), (0, 3), (3,), (-1,), (-1, 0), (60,), [], [0], [0, 1], {0}]
        for value in wrong:
            self.assert_wrong(G, "required", required=value)
            self.assert_wrong(G, "forbidden", forbidden=value)
            self.assert_wrong(G, "required", required=value, forbidden=value)

    def test_values_of_many_kinds(self):
        for value in no_integers() + large_integers() + [0, 1, 60, (0, [1]), (0, (1,)), "01", range(2), (None, 0)]:
            self.assert_wrong(G, "required", required=value)
            self.assert_wrong(G, "forbidden", forbidden=value)

    def test_true_and_false_are_no_labels(self):
        for value in [(True,), (False,), (0, True), (False, 1), (0, True, 2), (False, True)]:
            self.assert_wrong(G, "required", required=value)
            self.assert_wrong(G, "forbidden", required=(2,), forbidden=value)

    def test_large_integers_are_no_labels(self):
        for item in large_integers():
            self.assert_wrong(G, "required", required=(item,))
            self.assert_wrong(G, "forbidden", forbidden=(0, item))

    def test_required_comes_before_forbidden_and_both(self):
        self.assert_wrong(G, "required", required=(1, 0), forbidden=(1, 0))
        self.assert_wrong(G, "required", required=(3,), forbidden=(3,))
        self.assert_wrong(G, "forbidden", required=(0, 1), forbidden=(0, 1, 1))
        self.assert_wrong(G, "both", required=(0, 1), forbidden=(1,))

    def test_a_label_in_both(self):
        self.assert_wrong(G, "both", required=(0, 1, 2), forbidden=(2,))
        self.assert_wrong(G, "both", required=(0,), forbidden=(0, 1, 2))
        self.assert_wrong(F, "both", required=(0, 1), forbidden=(0, 1))
        self.assert_wrong(chain(60), "both", required=(59,), forbidden=(59,))

    def test_an_invalid_forest_comes_first(self):
        for selection in [{}, {"required": (5,)}, {"forbidden": None}, {"required": (0,), "forbidden": (0,)}]:
            for ask in ASKED_BY_SELECTION:
                with self.assertRaises(InvalidForest) as context:
                    ask(INVALID, **selection)
                self.assertEqual(context.exception.path, (1, "shown"))

    def test_values_that_are_no_forests(self):
        for value in no_integers() + large_integers() + [(), list(G), chain(61)]:
            for ask in ASKED_BY_SELECTION:
                with self.assertRaises(InvalidForest):
                    ask(value)

    def test_every_label_may_be_selected(self):
        labels = tuple(range(60))
        self.assertEqual(greatest_weight(chain(60), required=labels), 60)
        self.assertEqual(greatest_weight(chain(60), forbidden=labels), 0)


class Arguments(unittest.TestCase):
    def test_by_name(self):
        self.assertEqual(reach_table(forbidden=(0,), required=(1,), forest=F)[1][0], None)

    def test_the_selection_is_passed_by_name_only(self):
        for ask in (reach_table, greatest_weight, best_run, traced_run):
            with self.assertRaises(TypeError):
                ask(G, ())
        with self.assertRaises(TypeError):
            check_reach_table(G, reach_table(G), ())

    def test_values_stay_as_they_were(self):
        value = [0, [1]]
        for ask in ASKED_BY_SELECTION:
            with self.assertRaises(InvalidSelection):
                ask(G, required=value)
            with self.assertRaises(InvalidSelection):
                ask(G, forbidden=(value,))
        self.assertEqual(value, [0, [1]])


if __name__ == "__main__":
    unittest.main()
