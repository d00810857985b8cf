import itertools
import random
import time
import unittest

from dialforest import errors
from dialforest.counts import count_table
from dialforest.edits import affected, apply_edit, inverse
from dialforest.errors import InvalidEdit, InvalidForest, NotChild, NotRoot, WouldLoop
from dialforest.forests import MOST_WEIGHT, path_to_root, validate
from dialforest.preparation import preparation_table
from dialforest.reach import reach_table
from tests.changes import LENGTHS, affected_by_words, edited_by_words, edits_of_all_kinds, error_by_words, random_edit
from tests.samples import F, G, MIXED, SINGLE, chain, clearable, forest_with, free_forest, large_integers, loose_forests
from tests.samples import nested, no_integers, node_with, random_forests, shapes, small_forests

INVALID = (SINGLE, node_with(SINGLE, shown=2))
ASKED = (apply_edit, affected, inverse)
FIELDS = {"InvalidEdit": "path", "NotRoot": "label", "NotChild": "label", "WouldLoop": "label"}


class Examples(unittest.TestCase):
    def test_the_examples_of_the_document(self):
        self.assertEqual(apply_edit(G, ("cut", 2))[2], (2, 0, (0,), -1, None, 0, 0))
        self.assertEqual(affected(G, ("cut", 2)), (2, 0))
        self.assertEqual(inverse(G, ("cut", 2)), ("link", 2, 0, 1, 1))


class Applied(unittest.TestCase):
    def assert_edit(self, forest, edit, wanted):
        found = apply_edit(forest, edit)
        self.assertEqual(found, wanted)
        self.assertIs(type(found), tuple)
        self.assertEqual({type(node) for node in found}, {tuple})
        validate(found)

    def test_every_kind(self):
        self.assert_edit(G, ("shown", 1, 2), forest_with(G, 1, shown=2))
        self.assert_edit(G, ("allowed", 1, (0, 2)), forest_with(G, 1, allowed=(0, 2)))
        self.assert_edit(G, ("weight", 0, -7), forest_with(G, 0, weight=-7))
        self.assert_edit(G, ("amounts", 1, 1, 0), forest_with(G, 1, down=1, up=0))
        self.assert_edit(F, ("link", 0, 1, 1, 0), forest_with(F, 0, parent=1, down=1, up=0))
        self.assert_edit(F, ("link", 1, 0, 0, 1), forest_with(F, 1, parent=0, down=0, up=1))
        self.assert_edit(G, ("cut", 1), forest_with(G, 1, parent=None, down=0, up=0))

    def test_a_subtree_goes_with_its_node(self):
        self.assert_edit(MIXED, ("cut", 0), forest_with(MIXED, 0, parent=None, down=0, up=0))
        self.assert_edit(MIXED, ("link", 4, 5, 2, 5), forest_with(MIXED, 4, parent=5, down=2, up=5))
        self.assert_edit(MIXED, ("link", 1, 3, 4, 11), forest_with(MIXED, 1, parent=3, down=4, up=11))

    def test_against_the_words(self):
        rng = random.Random(131)
        for forest in random_forests() + small_forests(6, 4) + [MIXED, G, F]:
            for edit in edits_of_all_kinds(rng, forest):
                self.assert_edit(forest, edit, edited_by_words(forest, edit))

    def test_an_edit_that_changes_nothing(self):
        for edit in [("shown", 0, 1), ("allowed", 0, (0,)), ("weight", 0, 3), ("amounts", 1, 2, 1)]:
            self.assert_edit(G, edit, G)
            self.assertEqual(inverse(G, edit), edit)

    def test_values_at_the_bounds(self):
        forest = free_forest([None, 0], [1, 1])
        forest = tuple(node_with(node, size=12) for node in forest)
        for edit in [
            ("shown", 1, 0), ("shown", 1, 11), ("allowed", 1, (0,)), ("allowed", 1, (11,)),
            ("allowed", 1, tuple(range(12))), ("weight", 1, MOST_WEIGHT), ("weight", 1, -MOST_WEIGHT),
            ("amounts", 1, 0, 0), ("amounts", 1, 11, 11), ("weight", 0, 0), ("cut", 1),
        ]:
            self.assert_edit(forest, edit, edited_by_words(forest, edit))


class Inverse(unittest.TestCase):
    def test_the_old_forest_comes_back(self):
        rng = random.Random(132)
        for forest in random_forests() + small_forests(6, 4) + [MIXED, G, F]:
            for edit in edits_of_all_kinds(rng, forest):
                new = apply_edit(forest, edit)
                back = inverse(forest, edit)
                self.assertIs(type(back), tuple)
                self.assertEqual(apply_edit(new, back), forest)
                self.assertEqual(inverse(new, back), edit)

    def test_the_same_kind(self):
        self.assertEqual(inverse(G, ("shown", 1, 2)), ("shown", 1, 1))
        self.assertEqual(inverse(G, ("allowed", 1, (0, 2))), ("allowed", 1, (0,)))
        self.assertEqual(inverse(G, ("weight", 2, 9)), ("weight", 2, -1))
        self.assertEqual(inverse(G, ("amounts", 1, 0, 0)), ("amounts", 1, 2, 1))
        self.assertEqual(inverse(F, ("link", 1, 0, 1, 1)), ("cut", 1))
        self.assertEqual(inverse(MIXED, ("cut", 3)), ("link", 3, 0, 11, 3))


class Affected(unittest.TestCase):
    def test_the_path(self):
        for edit in [("shown", 3, 0), ("allowed", 3, (1,)), ("weight", 3, 0), ("amounts", 3, 0, 0), ("cut", 3)]:
            self.assertEqual(affected(MIXED, edit), (3, 0, 4))
        for edit in [("shown", 4, 0), ("allowed", 4, (1,)), ("weight", 4, 0)]:
            self.assertEqual(affected(MIXED, edit), (4,))

    def test_the_path_in_the_new_forest(self):
        self.assertEqual(affected(MIXED, ("link", 1, 3, 0, 0)), (1, 3, 0, 4))
        self.assertEqual(affected(MIXED, ("link", 4, 5, 0, 0)), (4, 5, 1))

    def test_against_the_words(self):
        rng = random.Random(133)
        for forest in random_forests() + small_forests(6, 4) + [MIXED, G, F]:
            for edit in edits_of_all_kinds(rng, forest):
                found = affected(forest, edit)
                self.assertIs(type(found), tuple)
                self.assertEqual(found, affected_by_words(forest, edit))
                if edit[0] != "cut":
                    self.assertEqual(found, path_to_root(apply_edit(forest, edit), edit[1]))

    def test_all_other_rows_stay_the_same(self):
        rng = random.Random(134)
        changed = 0
        for forest in random_forests()[:16] + loose_forests(7, 4) + [MIXED, G, F]:
            forest = clearable(forest)
            for edit in edits_of_all_kinds(rng, forest):
                new = apply_edit(forest, edit)
                labels = affected(forest, edit)
                for table_of in (reach_table, preparation_table, count_table):
                    for label, rows in enumerate(zip(table_of(forest), table_of(new))):
                        if label not in labels:
                            self.assertEqual(rows[0], rows[1])
                        changed += rows[0] != rows[1]
        self.assertGreater(changed, 100)

    def test_an_edit_can_change_the_row_of_the_root(self):
        # A chain in which each node waits for its child: the root sees what happens at the other end.
        forest = tuple((2, 1 if label < 4 else 0, (0,), 1, label - 1 if label else None, 0, 1 if label else 0)
                       for label in range(5))
        for edit in [("shown", 4, 1), ("allowed", 4, (1,)), ("amounts", 4, 0, 0), ("cut", 4)]:
            new = apply_edit(forest, edit)
            self.assertEqual(affected(forest, edit), (4, 3, 2, 1, 0))
            self.assertNotEqual(count_table(forest)[0], count_table(new)[0])


class Wrong(unittest.TestCase):
    def assert_error(self, forest, edit, name, field):
        for ask in ASKED:
            with self.assertRaises(getattr(errors, name)) as context:
                ask(forest, edit)
            self.assertEqual(getattr(context.exception, FIELDS[name]), field)

    def assert_as_by_words(self, forest, edit):
        found = error_by_words(forest, edit)
        if found is None:
            self.assertEqual(apply_edit(forest, edit), edited_by_words(forest, edit))
        else:
            self.assert_error(forest, edit, *found)
        return found


class Forms(Wrong):
    def test_values_that_are_no_edits(self):
        for value in no_integers() + large_integers() + [(), 0, 1, "cut", ("cut",), [("cut", 1)], ["cut", 1]]:
            self.assert_error(G, value, "InvalidEdit", ())

    def test_wrong_words(self):
        for word in no_integers() + large_integers() + ["", "Cut", "cut ", "move", "shown\n", "size", "parent", 0]:
            for items in [(), (1,), (1, 0), (1, 0, 0), (0, 1, 0, 0), (1, 0, 0, 0, 0)]:
                self.assert_error(G, (word, *items), "InvalidEdit", ())

    def test_wrong_lengths(self):
        items = (0, 1, 0, 0, 0, 0, 0)
        for word, length in LENGTHS.items():
            for many in range(1, 8):
                if many != length:
                    self.assert_error(G, (word, *items[:many - 1]), "InvalidEdit", ())
                    self.assert_error(F, (word, *("x",) * (many - 1)), "InvalidEdit", ())
            self.assert_error(G, (word, *(0,) * 99999), "InvalidEdit", ())

    def test_lists_are_no_tuples(self):
        for edit in [["shown", 0, 0], ["cut", 1], ["link", 0, 1, 0, 0], {"cut": 1}, {0: "cut", 1: 1}]:
            self.assert_error(G, edit, "InvalidEdit", ())
        self.assert_error(G, (("cut", 1),), "InvalidEdit", ())
        self.assert_error(G, (["cut"], 1), "InvalidEdit", ())


class Items(Wrong):
    def wrong_integers(self, most):
        """Return values that are no integers from 0 to `most`."""
        return no_integers() + large_integers() + [most + 1]

    def test_labels(self):
        rest = {"shown": (0,), "allowed": ((0,),), "weight": (0,), "amounts": (0, 0), "link": (1, 0, 0), "cut": ()}
        for word, items in rest.items():
            for value in self.wrong_integers(2):
                self.assert_error(G, (word, value, *items), "InvalidEdit", (1,))
                self.assert_error(G, (word, value, *("x",) * len(items)), "InvalidEdit", (1,))

    def test_numbers(self):
        for value in self.wrong_integers(2) + [3, (0,)]:
            self.assert_error(G, ("shown", 1, value), "InvalidEdit", (2,))
        self.assert_error(G, ("shown", 0, 2), "InvalidEdit", (2,))
        self.assertEqual(apply_edit(G, ("shown", 1, 2))[1][1], 2)

    def test_allowed_numbers(self):
        values = no_integers() + large_integers() + [
            0, [0], (), (0, 0), (1, 0), (0, 2, 1), (0, 1, 1), (3,), (0, 3), (-1,), (-1, 0), (0, True), (False, 1),
            (True,), {0}, "0", (0, "1"), (0, None), ((0,),), nested(29, tuple), tuple(range(4)), (0,) * 99999,
        ]
        for value in values:
            self.assert_error(G, ("allowed", 1, value), "InvalidEdit", (2,))
        self.assert_error(G, ("allowed", 0, (0, 1, 2)), "InvalidEdit", (2,))
        self.assert_error(G, ("allowed", 0, (2,)), "InvalidEdit", (2,))

    def test_weights(self):
        large = [value for value in large_integers() if abs(value) > MOST_WEIGHT]
        for value in no_integers() + large + [MOST_WEIGHT + 1, -MOST_WEIGHT - 1, (1,)]:
            self.assert_error(G, ("weight", 1, value), "InvalidEdit", (2,))

    def test_amounts(self):
        for value in self.wrong_integers(2) + [11]:
            self.assert_error(G, ("amounts", 1, value, 0), "InvalidEdit", (2,))
            self.assert_error(G, ("amounts", 1, value, value), "InvalidEdit", (2,))
            self.assert_error(G, ("amounts", 0, value, 0), "InvalidEdit", (2,))
        for value in self.wrong_integers(11):
            self.assert_error(G, ("amounts", 1, 0, value), "InvalidEdit", (3,))
            self.assert_error(G, ("amounts", 0, 0, value), "InvalidEdit", (3,))

    def test_links(self):
        for value in self.wrong_integers(1) + [2, 60]:
            self.assert_error(F, ("link", 0, value, 0, 0), "InvalidEdit", (2,))
            self.assert_error(F, ("link", 0, value, "x", "x"), "InvalidEdit", (2,))
            self.assert_error(F, ("link", 0, 1, value, 0), "InvalidEdit", (3,))
            self.assert_error(F, ("link", 0, 1, value, value), "InvalidEdit", (3,))
            self.assert_error(G, ("link", 1, 0, 0, -1), "InvalidEdit", (4,))
        for value in self.wrong_integers(11):
            self.assert_error(F, ("link", 0, 1, 0, value), "InvalidEdit", (4,))
            self.assert_error(G, ("link", 1, 1, 0, value), "InvalidEdit", (4,))

    def test_true_and_false_are_no_integers(self):
        for edit, k in [
            (("shown", True, 0), 1), (("shown", 1, True), 2), (("weight", 1, False), 2), (("cut", True), 1),
            (("cut", False), 1), (("amounts", 1, False, 0), 2), (("amounts", 1, 0, True), 3),
            (("allowed", 1, (False,)), 2), (("allowed", 1, True), 2), (("weight", False, 0), 1),
        ]:
            self.assert_error(G, edit, "InvalidEdit", (k,))
        for k in range(1, 5):
            edit = ["link", 0, 1, 0, 0]
            edit[k] = bool(edit[k])
            self.assert_error(F, tuple(edit), "InvalidEdit", (k,))


class Edges(Wrong):
    def test_a_link_of_a_node_that_has_a_parent(self):
        self.assert_error(G, ("link", 1, 2, 0, 0), "NotRoot", 1)
        self.assert_error(G, ("link", 1, 1, 0, 0), "NotRoot", 1)
        self.assert_error(G, ("link", 2, 0, 1, 11), "NotRoot", 2)
        self.assert_error(MIXED, ("link", 0, 3, 0, 0), "NotRoot", 0)

    def test_amounts_and_cut_of_a_root(self):
        for edit in [("amounts", 0, 0, 0), ("amounts", 0, 1, 11), ("cut", 0)]:
            self.assert_error(G, edit, "NotChild", 0)
        for edit in [("amounts", 1, 0, 0), ("amounts", 1, 1, 1), ("cut", 1)]:
            self.assert_error(F, edit, "NotChild", 1)

    def test_wrong_items_come_before_edges(self):
        self.assert_error(G, ("amounts", 0, 2, 0), "InvalidEdit", (2,))
        self.assert_error(G, ("amounts", 0, 0, 12), "InvalidEdit", (3,))
        self.assert_error(G, ("link", 1, 3, 0, 0), "InvalidEdit", (2,))
        self.assert_error(G, ("link", 0, 0, 2, 0), "InvalidEdit", (3,))
        self.assert_error(G, ("link", 0, 0, 0, 12), "InvalidEdit", (4,))

    def test_a_link_to_a_node_of_the_own_subtree(self):
        for parent in (0, 1, 2):
            self.assert_error(G, ("link", 0, parent, 0, 0), "WouldLoop", parent)
            self.assert_error(G, ("link", 0, parent, 0, 11), "WouldLoop", parent)
        for parent in (0, 2, 3, 4):
            self.assert_error(MIXED, ("link", 4, parent, 0, 0), "WouldLoop", parent)
        self.assert_error(chain(60), ("link", 0, 59, 0, 0), "WouldLoop", 59)
        self.assert_error((SINGLE,), ("link", 0, 0, 0, 0), "WouldLoop", 0)

    def test_up_is_less_than_the_size_of_the_parent(self):
        self.assert_error(G, ("amounts", 1, 0, 2), "InvalidEdit", (3,))
        self.assert_error(G, ("amounts", 1, 0, 11), "InvalidEdit", (3,))
        self.assert_error(F, ("link", 0, 1, 0, 2), "InvalidEdit", (4,))
        self.assert_error(F, ("link", 0, 1, 0, 11), "InvalidEdit", (4,))
        self.assert_error(MIXED, ("link", 4, 5, 0, 6), "InvalidEdit", (4,))
        self.assert_error(MIXED, ("amounts", 0, 0, 3), "InvalidEdit", (3,))
        self.assertEqual(apply_edit(MIXED, ("link", 4, 5, 0, 5))[4][6], 5)
        self.assertEqual(apply_edit(MIXED, ("amounts", 0, 0, 2))[0][6], 2)
        # The size of the node itself does not matter.
        self.assertEqual(apply_edit(MIXED, ("link", 4, 5, 2, 4))[4], (3, 2, (1,), -10 ** 12, 5, 2, 4))


class Together(Wrong):
    def test_all_edits_of_small_items(self):
        found = set()
        for forest in [G, F, (SINGLE,), forest_with(chain(3), 0, size=3)]:
            values = [-1, 0, 1, 2, 3, 12, (0,), (0, 1), (1, 0), True, None]
            for word, length in LENGTHS.items():
                for items in itertools.product(values[:7] if length > 4 else values, repeat=length - 1):
                    found.add(self.assert_as_by_words(forest, (word, *items)))
        self.assertEqual({error and error[0] for error in found}, {None, *FIELDS})
        self.assertEqual({error[1] for error in found if error and error[0] == "InvalidEdit"}, {(1,), (2,), (3,), (4,)})

    def test_right_edits_with_one_item_replaced(self):
        rng = random.Random(135)
        for forest in small_forests(6, 3) + random_forests()[:16] + [MIXED]:
            for word in LENGTHS:
                edit = random_edit(rng, forest, word)
                if edit is not None:
                    for k in range(len(edit)):
                        for value in [*range(-1, 13), True, False, None, "0", (), (0,), 59, 60, 10 ** 12 + 1]:
                            self.assert_as_by_words(forest, edit[:k] + (value,) + edit[k + 1:])

    def test_an_invalid_forest_comes_first(self):
        for ask in ASKED:
            for edit in [("cut", 1), None, (), ("cut", 0), ("shown", 5, 0), [1]]:
                with self.assertRaises(InvalidForest) as context:
                    ask(INVALID, edit)
                self.assertEqual(context.exception.path, (1, "shown"))
            for value in no_integers() + large_integers() + [(), list(G), chain(61)]:
                with self.assertRaises(InvalidForest):
                    ask(value, ("cut", 1))

    def test_classes_of_errors(self):
        for ask in ASKED:
            for edit, kind in [
                ("cut", InvalidEdit), (("link", 1, 0, 0, 0), NotRoot), (("cut", 0), NotChild),
                (("link", 0, 0, 0, 0), WouldLoop),
            ]:
                with self.assertRaises(kind):
                    ask(G, edit)

    def test_values_stay_as_they_were(self):
        values = [["cut", 1], ("allowed", 1, [0]), ("shown", [1], [2])]
        for edit in values:
            for ask in ASKED:
                with self.assertRaises(InvalidEdit):
                    ask(G, edit)
        self.assertEqual(values, [["cut", 1], ("allowed", 1, [0]), ("shown", [1], [2])])

    def test_by_name(self):
        self.assertEqual(apply_edit(edit=("cut", 1), forest=G), apply_edit(G, ("cut", 1)))
        self.assertEqual(affected(edit=("cut", 1), forest=G), (1, 0))
        self.assertEqual(inverse(edit=("cut", 1), forest=G), ("link", 1, 0, 2, 1))

    def test_sixty_nodes_are_quick(self):
        rng = random.Random(136)
        began = time.perf_counter()
        for parents in shapes(60):
            forest = free_forest(parents, [1] * 60)
            for edit in edits_of_all_kinds(rng, forest):
                self.assertEqual(apply_edit(apply_edit(forest, edit), inverse(forest, edit)), forest)
        self.assertLess(time.perf_counter() - began, 5)


if __name__ == "__main__":
    unittest.main()
