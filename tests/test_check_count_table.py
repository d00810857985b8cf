import random
import time
import unittest

from dialforest.counts import check_count_table, count_runs, count_table
from dialforest.errors import InvalidForest, InvalidTable
from tests.oracles import below, branch, count_row_by_words
from tests.samples import F, G, MIXED, SINGLE
from tests.samples import chain, forest_with, free_forest, large_integers, loose_forests, no_integers, node_with
from tests.samples import random_forests, shapes, small_forests
from tests.tables import altered, at, no_rows, no_tables, paths, replaced, wrong_label


def is_vector(value, many):
    return type(value) is tuple and len(value) == many and all(type(entry) is int for entry in value)


def has_form(forest, label, row):
    """Return whether the value has the form that the document gives for a count row."""
    if type(row) is not tuple or len(row) != 3:
        return False
    early, late, stages = row
    many = len(branch(forest, label))
    if not is_vector(early, many) or not (late is None if forest[label][4] is None else is_vector(late, many)):
        return False
    children = below(forest, label)
    if type(stages) is not tuple or len(stages) != len(children) + 1:
        return False
    for i, stage in enumerate(stages):
        if type(stage) is not tuple or len(stage) != forest[label][0]:
            return False
        length = 1 + sum(len(branch(forest, child)) for child in children[:i])
        if not all(is_vector(vector, length) for vector in stage):
            return False
    return True


class Cases(unittest.TestCase):
    def assert_wrong(self, forest, table, label):
        with self.assertRaises(InvalidTable) as context:
            check_count_table(forest, table)
        self.assertEqual(context.exception.label, label)
        self.assertIs(type(context.exception.label), type(label))

    def assert_change(self, path, new, label, forest=G):
        """The table is wrong at this label after this change."""
        self.assert_wrong(forest, replaced(count_table(forest), path, new), label)

    def assert_as_by_words(self, forest, table):
        found = wrong_label(forest, table, has_form, count_row_by_words)
        if found:
            self.assert_wrong(forest, table, found[0])
        else:
            self.assertEqual(check_count_table(forest, table), count_runs(forest))
        return found


class Right(Cases):
    def test_the_example_of_the_document(self):
        self.assertEqual(check_count_table(F, count_table(F)), 2)

    def test_the_table_itself(self):
        for forest in random_forests() + small_forests(6, 4) + loose_forests(6, 4) + [G, F, chain(60)]:
            self.assertEqual(check_count_table(forest, count_table(forest)), count_runs(forest))

    def test_sixty_nodes(self):
        for parents in shapes(60):
            forest = free_forest(parents, [1] * 60)
            self.assertEqual(check_count_table(forest, count_table(forest)), count_runs(forest))

    def test_zero_is_an_answer(self):
        forest = (SINGLE, node_with(SINGLE, shown=1))
        self.assertEqual(check_count_table(forest, count_table(forest)), 0)


class Altered(Cases):
    def test_every_change_in_small_forests(self):
        for forest in small_forests(3, 2) + loose_forests(3, 3) + [G, F]:
            wrong = 0
            for other in altered(count_table(forest)):
                wrong += bool(self.assert_as_by_words(forest, other))
            self.assertGreater(wrong, 50)

    def test_two_changes_at_once(self):
        rng = random.Random(81)
        news = [0, 1, 2, -1, 10 ** 3999, True, False, None, (), (0,), (1,), (0, 0), [], "0", ((0,), (0,))]
        for forest in loose_forests(4, 3) + [G, F]:
            table = count_table(forest)
            for _ in range(150):
                other = table
                for _ in range(2):
                    path = rng.choice(list(paths(other)))
                    other = replaced(other, path, rng.choice(news))
                self.assert_as_by_words(forest, other)

    def test_rows_exchanged(self):
        table = count_table(G)
        self.assert_wrong(G, (table[1], table[0], table[2]), 0)
        self.assert_wrong(G, (table[0], table[2], table[1]), 1)
        forest = (node_with(SINGLE, shown=1), SINGLE)
        self.assert_wrong(forest, count_table(forest)[::-1], 0)

    def test_the_table_of_another_forest(self):
        self.assert_wrong(G, count_table(forest_with(G, 2, shown=1)), 2)
        self.assert_wrong(G, count_table(forest_with(G, 1, down=0)), 1)
        self.assert_wrong(G, count_table(forest_with(G, 0, shown=0)), 0)
        self.assert_wrong(G, count_table(F), None)
        self.assert_wrong(F, count_table(G), None)
        self.assert_wrong(G, count_table((SINGLE,) * 3), 0)
        for forest in random_forests():
            table = count_table(forest)
            for other in random_forests():
                if len(other) == len(forest) and count_table(other) != table:
                    self.assert_as_by_words(other, table)

    def test_one_entry_of_a_large_table(self):
        rng = random.Random(82)
        for parents in shapes(60):
            forest = free_forest(parents, [1] * 60)
            table = count_table(forest)
            for _ in range(3):
                path = rng.choice([path for path in paths(table) if type(at(table, path)) is int])
                self.assert_as_by_words(forest, replaced(table, path, rng.choice([-1, 7, 10 ** 3999, True, None])))


class Labels(Cases):
    def test_values_that_are_no_tables(self):
        table = count_table(G)
        values = [list(table), table[:2], table + table[:1], table + (None,), {0: table}, (table,), None, "abc"]
        for value in no_tables() + values:
            self.assert_wrong(G, value, None)

    def test_rows_of_other_kinds(self):
        row = count_table(G)[1]
        for value in no_rows() + [list(row), row[:2], row + (None,), (row,), (row[0], row[2], row[1])]:
            self.assert_change((1,), value, 1)
            self.assert_wrong(G, (count_table(G)[0], value, None), 1)
            self.assert_wrong(G, (None, value, None), 0)

    def test_late_is_none_exactly_for_a_root(self):
        self.assert_change((0, 1), (0, 0, 0), 0)
        self.assert_change((0, 1), (), 0)
        self.assert_change((0, 1), False, 0)
        self.assert_change((1, 1), None, 1)
        table = replaced(count_table(F), (0, 0), (9,))
        self.assert_wrong(F, replaced(table, (1, 1), (0,)), 1)
        self.assert_wrong(G, replaced(replaced(count_table(G), (0, 0), (9, 9, 9)), (2, 1), None), 2)

    def test_true_and_false_are_no_integers(self):
        table = count_table(G)
        changes = [((1, 0, 0), False), ((1, 1, 0), True), ((2, 2, 0, 0, 0), True), ((0, 2, 2, 0, 1), True)]
        for path, entry in changes + [((0, 0, 0), False), ((0, 2, 1, 1, 0), True)]:
            self.assert_wrong(G, replaced(table, path, entry), path[0])
            # A form that is wrong later comes before an entry that is wrong earlier.
            self.assert_wrong(G, replaced(replaced(table, (0, 2, 0, 0), (5,)), path, entry), path[0])

    def test_a_wrong_form_comes_before_a_wrong_row(self):
        table = replaced(count_table(G), (0, 0, 0), 5)
        self.assert_wrong(G, table, 0)
        self.assert_wrong(G, replaced(table, (2, 0), (1, 0)), 2)
        self.assert_wrong(G, replaced(replaced(table, (2, 0), (1, 0)), (1, 0), [0]), 1)

    def test_a_row_that_does_not_follow_from_those_of_its_children(self):
        self.assert_change((1, 1), (2,), 0)
        self.assert_change((2, 0), (7,), 0)
        self.assert_change((0, 0), (0, 2, 0), 0)
        self.assert_change((0, 2, 2, 0), (0, 2, 0), 0)

    def test_a_wrong_row_that_its_parent_does_not_show(self):
        # The root of this forest has no order after all, whatever the orders of its only child are.
        forest = ((3, 1, (0,), 1, None, 0, 0), (2, 0, (0,), 1, 0, 0, 0))
        self.assertEqual(count_table(forest)[0][0], (0, 0))
        self.assert_change((0, 0), (0, 1), 0, forest=forest)
        self.assert_change((1, 2, 0, 0), (2,), 1, forest=forest)
        self.assert_change((1, 2, 0, 1), (1,), 1, forest=forest)

    def test_children_with_smaller_labels(self):
        self.assert_change((3, 0, 0), -99, 0, forest=MIXED)
        self.assert_change((0, 1, 1), -99, 0, forest=MIXED)
        self.assert_change((5, 0, 0), -99, 1, forest=MIXED)
        self.assert_change((3, 2, 0, 0, 0), -99, 3, forest=MIXED)
        self.assert_change((2, 0, 0), -99, 2, forest=MIXED)

    def test_stages_and_vectors_of_other_lengths(self):
        stages = count_table(G)[0][2]
        self.assert_change((0, 2), stages[:2], 0)
        self.assert_change((0, 2), stages + stages[2:], 0)
        self.assert_change((0, 2), (), 0)
        self.assert_change((0, 2), list(stages), 0)
        self.assert_change((0, 2), (stages[0], stages[2], stages[1]), 0)
        self.assert_change((0, 2, 1), stages[1][:1], 0)
        self.assert_change((0, 2, 1), stages[1] + stages[1][:1], 0)
        self.assert_change((0, 2, 1), list(stages[1]), 0)
        self.assert_change((0, 2, 1, 0), (0, 0, 0), 0)
        self.assert_change((0, 2, 1, 0), (0,), 0)
        self.assert_change((0, 2, 1, 0), [0, 0], 0)
        self.assert_change((1, 0), (), 1)
        self.assert_change((1, 0), (0, 0), 1)
        self.assert_change((1, 1), (1, 0), 1)
        self.assert_change((1, 1), [1], 1)

    def test_negative_and_large_entries(self):
        for number in (-1, 10 ** 3999, -10 ** 3999):
            self.assert_change((2, 0, 0), number, 0)
            self.assert_change((0, 0, 1), number, 0)
            self.assert_change((0, 2, 2, 1, 2), number, 0)
            self.assert_change((2, 2, 0, 1, 0), number, 2)

    def test_large_rows_of_all_children_are_checked_quickly(self):
        forest = free_forest([None] + [0] * 59, [1] * 60)
        table = count_table(forest)
        huge = 10 ** 3999
        wrong = table[:1] + tuple(((huge,), (huge,), row[2]) for row in table[1:])
        began = time.perf_counter()
        self.assert_wrong(forest, wrong, 0)
        self.assertLess(time.perf_counter() - began, 1)


class Order(Cases):
    def test_the_forest_comes_first(self):
        for table in [None, (), count_table(G), 5, "a"]:
            with self.assertRaises(InvalidForest) as context:
                check_count_table((SINGLE, node_with(SINGLE, shown=2)), table)
            self.assertEqual(context.exception.path, (1, "shown"))
            for value in no_integers() + large_integers() + [(), list(G), chain(61)]:
                with self.assertRaises(InvalidForest):
                    check_count_table(value, table)

    def test_by_name(self):
        self.assertEqual(check_count_table(table=count_table(F), forest=F), 2)

    def test_values_stay_as_they_were(self):
        table = [list(row) for row in count_table(G)]
        self.assert_wrong(G, table, None)
        self.assert_wrong(G, tuple(table), 0)
        self.assertEqual(table, [list(row) for row in count_table(G)])


if __name__ == "__main__":
    unittest.main()
