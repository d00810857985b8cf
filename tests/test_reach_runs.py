import random
import time
import unittest

from dialforest.errors import InvalidForest, InvalidSelection, TooLarge, Unreachable
from dialforest.reach import MOST_BEST, best_run, greatest_weight, reach_table, traced_run
from dialforest.runs import is_run, run_weight
from tests.oracles import all_runs, best_by_trying, meets, traced_by_words
from tests.samples import F, G, SINGLE
from tests.samples import chain, forest_with, free_forest, node_with, random_forest, random_forests
from tests.samples import selections, small_forests

ASKED = (greatest_weight, best_run, traced_run)


class Cases(unittest.TestCase):
    def assert_unreachable(self, forest, **selection):
        for ask in ASKED:
            if ask is best_run and len(forest) > 24:
                continue
            with self.assertRaises(Unreachable) as context:
                ask(forest, **selection)
            self.assertEqual(context.exception.reason, "selection")

    def assert_greatest(self, forest, run, required=(), forbidden=()):
        """The run meets the selection and has the greatest weight."""
        self.assertIs(type(run), tuple)
        self.assertTrue(is_run(forest, run))
        self.assertTrue(meets(run, required, forbidden))
        wanted = greatest_weight(forest, required=required, forbidden=forbidden)
        self.assertEqual(run_weight(forest, run), wanted)


class Examples(Cases):
    def test_the_examples_of_the_document(self):
        self.assertEqual(greatest_weight(G), 7)
        self.assertEqual(best_run(G, forbidden=(0,)), ())
        self.assertEqual(traced_run(G), (2, 0, 1))
        self.assertEqual(MOST_BEST, 24)


class Greatest(Cases):
    def test_against_all_runs_of_small_forests(self):
        rng = random.Random(31)
        unreachable = 0
        for forest in small_forests(6, 8):
            runs = all_runs(forest)
            for required, forbidden in selections(rng, len(forest), 6):
                found = best_by_trying(forest, runs, required, forbidden)
                selection = {"required": required, "forbidden": forbidden}
                if found is None:
                    self.assert_unreachable(forest, **selection)
                    unreachable += 1
                    continue
                weight, run = found
                self.assertEqual(greatest_weight(forest, **selection), weight)
                self.assertEqual(best_run(forest, **selection), run)
                traced = traced_run(forest, **selection)
                self.assertEqual(traced, traced_by_words(forest, reach_table(forest, **selection)))
                self.assert_greatest(forest, traced, required, forbidden)
        self.assertGreater(unreachable, 10)

    def test_forests_that_can_be_removed_in_many_ways(self):
        rng = random.Random(32)
        for _ in range(12):
            parents = [rng.choice([None] + list(range(label))) for label in range(5)]
            forest = free_forest(parents, [rng.randint(-1, 1) for _ in range(5)])
            runs = all_runs(forest)
            for required, forbidden in selections(rng, 5, 3):
                weight, run = best_by_trying(forest, runs, required, forbidden)
                self.assertEqual(greatest_weight(forest, required=required, forbidden=forbidden), weight)
                self.assertEqual(best_run(forest, required=required, forbidden=forbidden), run)

    def test_trees_are_added_up(self):
        forest = G + tuple(node_with(node, parent=None if node[4] is None else node[4] + 3) for node in G)
        self.assertEqual(greatest_weight(forest), 14)
        self.assertEqual(greatest_weight(forest, forbidden=(3,)), 7)
        self.assert_unreachable(forest, required=(1,), forbidden=(0,))

    def test_nothing_worth_removing(self):
        forest = free_forest([None, 0, None], [-1, -2, -3])
        self.assertEqual(greatest_weight(forest), 0)
        self.assertEqual(best_run(forest), ())
        self.assertEqual(traced_run(forest), ())

    def test_a_negative_weight_that_is_required(self):
        forest = free_forest([None, 0, None], [-1, -2, -3])
        self.assertEqual(greatest_weight(forest, required=(2,)), -3)
        self.assertEqual(best_run(forest, required=(0, 2)), (0, 2))
        self.assertEqual(traced_run(forest, required=(1,)), (1,))

    def test_a_negative_weight_that_makes_way(self):
        self.assertEqual(greatest_weight(G, required=(1,)), 7)
        self.assertEqual(best_run(G), (2, 0, 1))
        self.assertEqual(greatest_weight(G, forbidden=(1,)), 2)

    def test_a_node_that_never_shows_an_allowed_number(self):
        forest = ((2, 1, (0,), 5, None, 0, 0),)
        self.assertEqual(greatest_weight(forest), 0)
        self.assert_unreachable(forest, required=(0,))

    def test_unreachable_in_a_large_forest(self):
        forest = chain(59) + ((2, 1, (0,), 5, None, 0, 0),)
        self.assert_unreachable(forest, required=(59,))
        self.assertEqual(greatest_weight(forest), 59)


class Best(Cases):
    def test_it_ends_as_soon_as_it_can(self):
        forest = free_forest([None] * 3, [0, 2, 0])
        self.assertEqual(best_run(forest), (0, 1))
        self.assertEqual(best_run(forest, forbidden=(0,)), (1,))
        self.assertEqual(best_run(forest, required=(2,)), (0, 1, 2))
        self.assertEqual(best_run(free_forest([None] * 3, [0, 0, 0])), ())
        self.assertEqual(best_run(free_forest([None] * 3, [0, 0, 0]), required=(1,)), (0, 1))

    def test_it_goes_on_while_a_required_label_is_missing(self):
        forest = free_forest([None] * 3, [0, 0, 0])
        self.assertEqual(best_run(forest, required=(2,)), (0, 1, 2))
        self.assertEqual(best_run(forest, required=(2,), forbidden=(1,)), (0, 2))

    def test_the_smallest_label_is_not_always_first(self):
        forest = ((3, 0, (1,), 1, None, 0, 0), (2, 0, (0,), 1, 0, 1, 1), (2, 0, (0,), 1, None, 0, 0))
        self.assertEqual(best_run(forest), (1, 0, 2))
        self.assertEqual(best_run(forest_with(forest, 0, allowed=(0, 1))), (1, 0, 2))
        self.assertEqual(best_run(forest_with(forest, 1, down=0, allowed=(0,))), (1, 0, 2))

    def test_it_may_differ_from_the_traced_run(self):
        forest = free_forest([None] * 2, [0, 1])
        self.assertEqual(best_run(forest), (0, 1))
        self.assertEqual(traced_run(forest), (1,))

    def test_sets_of_equal_weight(self):
        forest = ((2, 0, (0,), 3, None, 0, 0), (2, 0, (0,), 3, 0, 1, 1), (2, 0, (0,), 0, None, 0, 0))
        self.assertEqual(best_run(forest), (0,))
        self.assertEqual(best_run(forest, forbidden=(0,)), (1,))

    def test_too_large(self):
        for many in (25, 26, 60):
            for selection in [{}, {"required": (0,)}, {"required": (3,), "forbidden": (4,)}]:
                with self.assertRaises(TooLarge) as context:
                    best_run(chain(many), **selection)
                self.assertEqual(context.exception.limit, 24)
        self.assertEqual(best_run(chain(24)), tuple(range(24)))

    def test_too_large_comes_after_the_selection_and_before_unreachable(self):
        forest = chain(24) + ((2, 1, (0,), 5, None, 0, 0),)
        with self.assertRaises(TooLarge):
            best_run(forest, required=(24,))
        for selection, name in [({"required": (25,)}, "required"), ({"forbidden": [1]}, "forbidden")]:
            with self.assertRaises(InvalidSelection) as context:
                best_run(forest, **selection)
            self.assertEqual(context.exception.name, name)
        with self.assertRaises(InvalidForest):
            best_run(forest + ((2, 2, (0,), 5, None, 0, 0),))

    def test_unreachable_with_twenty_four_nodes(self):
        forest = chain(23) + ((2, 1, (0,), 5, None, 0, 0),)
        self.assert_unreachable(forest, required=(23,))

    def test_twenty_four_nodes_that_can_be_removed_at_once(self):
        rng = random.Random(33)
        labels = tuple(range(24))
        began = time.perf_counter()
        for parents in ([None] * 24, [None] + [0] * 23, [None, *range(23)], [23] * 23 + [None], [*range(1, 24), None]):
            self.assertEqual(best_run(free_forest(parents, [1] * 24)), labels)
            self.assertEqual(best_run(free_forest(parents, [0] * 24)), ())
            self.assertEqual(best_run(free_forest(parents, [0] * 24), required=labels), labels)
            self.assertEqual(best_run(free_forest(parents, [-1] * 24), forbidden=labels), ())
            forest = free_forest(parents, [rng.randint(-2, 2) for _ in labels])
            run = best_run(forest, required=(3, 20), forbidden=(7,))
            self.assert_greatest(forest, run, (3, 20), (7,))
        self.assertLess(time.perf_counter() - began, 20)

    def test_twenty_four_nodes_that_must_be_removed_in_descending_order(self):
        forest = tuple(
            (3, 1 if label == 23 else 0, (1,), 1, None if label == 0 else label - 1, 0, 0 if label == 0 else 1)
            for label in range(24)
        )
        self.assertEqual(best_run(forest), tuple(range(23, -1, -1)))

    def test_random_forests_of_twenty_four_nodes(self):
        rng = random.Random(34)
        for _ in range(6):
            forest = random_forest(rng, 24)
            self.assert_greatest(forest, best_run(forest))
            run = traced_run(forest)
            required = tuple(sorted(run))[::3]
            forbidden = tuple(label for label in range(24) if label not in run)[::2]
            self.assert_greatest(forest, best_run(forest, required=required, forbidden=forbidden), required, forbidden)


class Traced(Cases):
    def test_a_root_stays_if_that_is_not_worse(self):
        self.assertEqual(traced_run(((2, 0, (0,), 0, None, 0, 0),)), ())
        self.assertEqual(traced_run(((2, 0, (0,), 1, None, 0, 0),)), (0,))
        self.assertEqual(traced_run(((2, 0, (0,), -1, None, 0, 0),)), ())

    def test_a_root_stays_if_it_cannot_be_early(self):
        self.assertEqual(traced_run(((2, 1, (0,), 1, None, 0, 0),)), ())
        self.assertEqual(traced_run(((2, 0, (0,), 1, None, 0, 0),), forbidden=(0,)), ())

    def test_a_root_is_early_if_it_cannot_stay(self):
        self.assertEqual(traced_run(((2, 0, (0,), -1, None, 0, 0),), required=(0,)), (0,))

    def test_children_of_a_node_that_stays(self):
        forest = free_forest([None, 0, 0, 1], [-9, 0, 1, 2])
        self.assertEqual(traced_run(forest), (2, 3))
        self.assertEqual(traced_run(forest, required=(1,)), (1, 2, 3))
        self.assertEqual(traced_run(forest, forbidden=(2,)), (3,))

    def test_the_smallest_allowed_remainder(self):
        # With the child early the dial shows 1, with the child late it shows 2.
        forest = ((4, 2, (1, 2), 1, None, 0, 0), (2, 0, (0,), 1, 0, 0, 3))
        self.assertEqual(traced_run(forest), (1, 0))
        self.assertEqual(traced_run(forest_with(forest, 0, allowed=(2,))), (0, 1))
        self.assertEqual(traced_run(forest_with(forest, 0, shown=3, allowed=(2, 3))), (1, 0))
        self.assertEqual(traced_run(forest_with(forest, 0, shown=1, allowed=(0, 1))), (1, 0))
        self.assertEqual(traced_run(forest_with(forest_with(forest, 0, shown=0, allowed=(0, 1)), 1, up=1)), (0, 1))

    def test_the_smallest_remainder_for_a_late_node(self):
        # Node 1 is late, and its child turns it from 2 to 1: of the remainders 1 and 2, the smaller one is taken.
        forest = (
            (2, 0, (0,), 1, None, 0, 0),
            (4, 2, (0, 3), 1, 0, 1, 1),
            (2, 0, (0,), 1, 1, 0, 3),
        )
        self.assertEqual(reach_table(forest)[1][:3], (1, None, 2))
        self.assertEqual(traced_run(forest_with(forest, 1, allowed=(2, 3))), (0, 2, 1))
        self.assertEqual(traced_run(forest_with(forest, 1, allowed=(3,))), (0, 1, 2))
        # The remainders 0 and 3 become 1 and 0: the smaller remainder counts, not the smaller number.
        self.assertEqual(traced_run(forest_with(forest, 1, shown=0, allowed=(0, 1))), (0, 1, 2))

    def test_children_are_decided_in_descending_order(self):
        # The dial must be turned twice by 1; three children can do it, and staying comes first for the last of them.
        root = (4, 0, (2,), 9, None, 0, 0)
        child = (2, 0, (0, 1), 0, 0, 0, 1)
        self.assertEqual(traced_run((root, child, child, child)), (1, 2, 0))
        children = tuple(node_with(child, parent=3) for _ in range(3))
        self.assertEqual(traced_run(children + (root,)), (0, 1, 3))

    def test_stay_before_early_before_late(self):
        root = (2, 0, (0, 1), 9, None, 0, 0)
        child = (2, 0, (0, 1), 0, 0, 0, 0)
        self.assertEqual(traced_run((root, child)), (0,))
        self.assertEqual(traced_run((root, child), required=(1,)), (1, 0))
        self.assertEqual(traced_run((root, node_with(child, weight=1))), (1, 0))
        late = node_with(child, weight=1, shown=1, allowed=(0,), down=1)
        self.assertEqual(traced_run((root, late)), (0, 1))
        self.assertEqual(traced_run((root, late), forbidden=(1,)), (0,))

    def test_the_remainder_moves_back_for_an_early_child_only(self):
        root = (5, 0, (3,), 9, None, 0, 0)
        children = tuple((2, 0, (0,), 1, 0, 0, up) for up in (2, 1, 4))
        # The last child is late; then the remainder is still 3, and both others must be early.
        self.assertEqual(traced_run((root,) + children, required=(1, 2, 3)), (1, 2, 0, 3))
        self.assertEqual(traced_run((node_with(root, allowed=(4,)),) + children), (3, 0, 1, 2))
        self.assertEqual(traced_run((node_with(root, allowed=(1,)),) + children), (1, 3, 0, 2))

    def test_the_smallest_label_that_is_ready_comes_next(self):
        # 3 is removed before 0, and 1 after 0; 2 and 4 are single nodes.
        forest = (
            (3, 0, (1,), 1, None, 0, 0),
            (2, 1, (0,), 1, 0, 1, 0),
            (2, 0, (0,), 1, None, 0, 0),
            (2, 0, (0,), 1, 0, 1, 1),
            (2, 0, (0,), 1, None, 0, 0),
        )
        self.assertEqual(traced_run(forest), (2, 3, 0, 1, 4))

    def test_a_path_of_early_nodes(self):
        forest = tuple(
            (3, 1 if label == 59 else 0, (1,), 1, None if label == 0 else label - 1, 0, 0 if label == 0 else 1)
            for label in range(60)
        )
        self.assertEqual(traced_run(forest), tuple(range(59, -1, -1)))

    def test_against_the_words_for_forests_of_up_to_sixty_nodes(self):
        rng = random.Random(35)
        for forest in random_forests() + [chain(60)]:
            run = traced_run(forest)
            self.assertEqual(run, traced_by_words(forest, reach_table(forest)))
            self.assert_greatest(forest, run)
            for required, forbidden in selections(rng, len(forest), 2):
                required = tuple(label for label in required if label in run)
                forbidden = tuple(label for label in forbidden if label not in run)
                traced = traced_run(forest, required=required, forbidden=forbidden)
                table = reach_table(forest, required=required, forbidden=forbidden)
                self.assertEqual(traced, traced_by_words(forest, table))
                self.assert_greatest(forest, traced, required, forbidden)

    def test_many_equal_weights_in_sixty_nodes(self):
        rng = random.Random(36)
        for _ in range(20):
            sizes = [rng.randint(2, 4) for _ in range(60)]
            forest = []
            for label, size in enumerate(sizes):
                parent = rng.randrange(label) if label and rng.random() < 0.95 else None
                root = parent is None
                allowed = tuple(sorted(rng.sample(range(size), rng.randint(1, 2))))
                down = 0 if root else rng.randrange(size)
                up = 0 if root else rng.randrange(sizes[parent])
                forest.append((size, rng.randrange(size), allowed, rng.randint(-1, 2), parent, down, up))
            forest = tuple(forest)
            run = traced_run(forest)
            self.assertEqual(run, traced_by_words(forest, reach_table(forest)))
            self.assert_greatest(forest, run)

    def test_sixty_nodes_are_quick(self):
        began = time.perf_counter()
        for parents in ([None] * 60, [None] + [0] * 59, [None, *range(59)], [59] * 59 + [None], [*range(1, 60), None]):
            forest = free_forest(parents, [1] * 60)
            self.assertEqual(traced_run(forest, required=tuple(range(60))), traced_run(forest))
            self.assertEqual(greatest_weight(forest), 60)
        self.assertLess(time.perf_counter() - began, 5)


class Arguments(unittest.TestCase):
    def test_by_name(self):
        self.assertEqual(greatest_weight(forbidden=(1,), required=(0,), forest=G), 2)
        self.assertEqual(best_run(forbidden=(1,), required=(0,), forest=G), (2, 0))
        self.assertEqual(traced_run(forbidden=(1,), required=(0,), forest=G), (2, 0))

    def test_the_default_selection_is_empty(self):
        for forest in (F, G, (SINGLE,)):
            for ask in ASKED:
                self.assertEqual(ask(forest), ask(forest, required=(), forbidden=()))


if __name__ == "__main__":
    unittest.main()
