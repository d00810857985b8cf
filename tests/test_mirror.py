import random
import unittest
from itertools import permutations

from dialforest.errors import InvalidForest
from dialforest.forests import is_forest, mirror
from tests.samples import F, G, MIXED, SINGLE, large_integers, no_integers, node_with, random_forest, random_forests


def clears(forest, order):
    """Return whether all nodes can be removed in this order, by the words of point 4.1."""
    shown = {label: node[1] for label, node in enumerate(forest)}
    for label in order:
        if shown.pop(label) not in forest[label][2]:
            return False
        for other in shown:
            if forest[other][4] == label:
                shown[other] = (shown[other] + forest[other][5]) % forest[other][0]
            if forest[label][4] == other:
                shown[other] = (shown[other] + forest[label][6]) % forest[other][0]
    return True


class Mirror(unittest.TestCase):
    def test_example(self):
        wanted = ((2, 1, (0,), 3, None, 0, 0), (3, 0, (0,), 5, 0, 1, 1), (2, 1, (0,), -1, 0, 1, 1))
        self.assertEqual(mirror(G), wanted)

    def test_single_nodes_are_their_own_mirror(self):
        self.assertEqual(mirror(F), F)
        self.assertEqual(mirror((SINGLE,)), (SINGLE,))

    def test_dials_of_different_sizes(self):
        wanted = (
            (4, (3 + 3 + 3) % 4, (1, 2), 7, 4, 1, 1),
            (5, (0 + 4) % 5, (0, 4), -2, None, 0, 0),
            (2, (1 + 1) % 2, (0, 1), 0, 4, 1, 0),
            (12, (11 + 11) % 12, (0, 11), 10 ** 12, 0, 1, 1),
            (3, (2 + 2 + 0) % 3, (1,), -10 ** 12, None, 0, 0),
            (6, (5 + 4) % 6, (0, 2, 5), 1, 1, 2, 1),
        )
        self.assertEqual(mirror(MIXED), wanted)

    def test_the_mirror_of_the_mirror_is_the_forest(self):
        for forest in random_forests() + [G, F, MIXED]:
            found = mirror(forest)
            self.assertTrue(is_forest(found))
            self.assertEqual(mirror(found), forest)

    def test_structure_sizes_allowed_numbers_and_weights_stay(self):
        for forest in random_forests() + [G, F, MIXED]:
            found = mirror(forest)
            for field in (0, 2, 3, 4):
                self.assertEqual([node[field] for node in found], [node[field] for node in forest])

    def test_amounts_are_negated_and_added_once(self):
        for forest in random_forests():
            found = mirror(forest)
            into = [node[5] for node in forest]
            for label, node in enumerate(forest):
                if node[4] is not None:
                    into[node[4]] += node[6]
                    self.assertEqual((node[6] + found[label][6]) % forest[node[4]][0], 0)
                self.assertEqual((node[5] + found[label][5]) % node[0], 0)
            for label, node in enumerate(forest):
                self.assertEqual(found[label][1], (node[1] + into[label]) % node[0])

    def test_a_tuple_clears_the_forest_exactly_if_the_reversed_tuple_clears_the_mirror(self):
        rng = random.Random(3)
        cleared = 0
        for forest in [random_forest(rng, rng.randint(1, 5)) for _ in range(60)] + [G, F]:
            for order in permutations(range(len(forest))):
                answer = clears(forest, order)
                self.assertEqual(clears(mirror(forest), order[::-1]), answer)
                cleared += answer
        self.assertGreater(cleared, 0)

    def test_by_name(self):
        self.assertEqual(mirror(forest=F), F)

    def test_values_that_are_no_forests(self):
        for value in no_integers() + large_integers() + [(), [SINGLE], (SINGLE,) * 61]:
            with self.assertRaises(InvalidForest):
                mirror(value)
        with self.assertRaises(InvalidForest) as context:
            mirror((SINGLE, node_with(SINGLE, parent=0, up=2)))
        self.assertEqual(context.exception.path, (1, "up"))


if __name__ == "__main__":
    unittest.main()
