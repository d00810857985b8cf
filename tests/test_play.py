import random
import unittest

from dialforest.errors import InvalidForest, InvalidLabel, NothingToUndo, NotRemovable
from dialforest.runs import Play, is_run, removable, run_weight, shown_after
from tests.oracles import after_removal, all_runs, start
from tests.samples import F, G, MIXED, SINGLE
from tests.samples import chain, free_forest, large_integers, no_integers, node_with, random_forests, small_forests


class Always:
    """A value that claims to be equal to everything."""

    def __eq__(self, other):
        return True


def played(forest, run):
    """Return a play in which the run was removed."""
    play = Play(forest)
    for label in run:
        play.remove(label)
    return play


class Cases(unittest.TestCase):
    def assert_state(self, play, forest, run):
        self.assertEqual(play.run(), run)
        self.assertIs(type(play.run()), tuple)
        self.assertEqual(play.shown(), shown_after(forest, run))
        self.assertIs(type(play.shown()), tuple)
        self.assertEqual(play.removable(), removable(forest, run=run))
        self.assertIs(type(play.removable()), tuple)
        self.assertEqual(play.weight(), run_weight(forest, run))
        self.assertEqual(len(play), len(run))


class Removing(Cases):
    def test_the_example_of_the_document(self):
        play = Play(G)
        self.assertEqual(play.remove(2), {0: 0})

    def test_a_whole_run(self):
        play = Play(G)
        self.assert_state(play, G, ())
        self.assertEqual(play.remove(2), {0: 0})
        self.assert_state(play, G, (2,))
        self.assertEqual(play.remove(0), {1: 0})
        self.assert_state(play, G, (2, 0))
        self.assertEqual(play.remove(1), {})
        self.assert_state(play, G, (2, 0, 1))

    def test_neighbours_are_told_also_for_amount_0(self):
        forest = ((3, 1, (0, 1), 1, None, 0, 0), (3, 2, (2,), 1, 0, 0, 0), (3, 0, (0,), 1, 0, 2, 0))
        self.assertEqual(Play(forest).remove(1), {0: 1})
        self.assertEqual(Play(forest).remove(0), {1: 2, 2: 2})

    def test_neighbours_are_told_in_ascending_order(self):
        forest = free_forest([2, 2, 4, 2, None, 2], [1] * 6)
        told = Play(forest).remove(2)
        self.assertEqual(list(told.items()), [(0, 1), (1, 1), (3, 1), (4, 1), (5, 1)])
        forest = free_forest([None, 3, 3, 0, 3], [1] * 5)
        self.assertEqual(list(Play(forest).remove(3)), [0, 1, 2, 4])

    def test_removed_neighbours_are_not_told(self):
        forest = free_forest([2, 2, 4, 2, None, 2], [1] * 6)
        play = played(forest, (1, 4))
        self.assertEqual(list(play.remove(2).items()), [(0, 1), (3, 1), (5, 1)])

    def test_all_runs_of_small_forests(self):
        for forest in small_forests(5, 4):
            for run in all_runs(forest):
                play = Play(forest)
                shown = start(forest)
                for label in run:
                    near = [k for k in shown if forest[k][4] == label or forest[label][4] == k]
                    shown = after_removal(forest, shown, label)
                    self.assertEqual(list(play.remove(label).items()), [(k, shown[k]) for k in near])
                self.assert_state(play, forest, run)

    def test_what_remove_returns_belongs_to_the_caller(self):
        play = Play(G)
        told = play.remove(2)
        told[0] = 1
        told[1] = 0
        self.assert_state(play, G, (2,))


class WrongLabels(Cases):
    def test_values_that_are_no_labels(self):
        play = played(G, (2,))
        for label in large_integers() + no_integers() + [3, 60, (), (0,), [0]]:
            with self.assertRaises(InvalidLabel) as context:
                play.remove(label)
            self.assertIs(context.exception.label, label)
        self.assert_state(play, G, (2,))

    def test_true_and_false_are_no_labels(self):
        play = Play(F)
        for label in (True, False):
            with self.assertRaises(InvalidLabel) as context:
                play.remove(label)
            self.assertIs(context.exception.label, label)
        self.assert_state(play, F, ())

    def test_nodes_that_cannot_be_removed(self):
        play = Play(G)
        for label in (0, 1):
            with self.assertRaises(NotRemovable) as context:
                play.remove(label)
            self.assertEqual(context.exception.label, label)
            self.assert_state(play, G, ())

    def test_a_node_that_is_no_longer_present(self):
        play = played(free_forest([None, 0], [1, 1]), (1, 0))
        for label in (0, 1):
            with self.assertRaises(NotRemovable) as context:
                play.remove(label)
            self.assertEqual(context.exception.label, label)
        self.assertEqual(play.run(), (1, 0))

    def test_every_label_of_small_forests_after_every_run(self):
        for forest in small_forests(4, 4):
            for run in all_runs(forest):
                for label in range(len(forest)):
                    play = played(forest, run)
                    if is_run(forest, run + (label,)):
                        play.remove(label)
                        self.assert_state(play, forest, run + (label,))
                    else:
                        with self.assertRaises(NotRemovable):
                            play.remove(label)
                        self.assert_state(play, forest, run)


class Undoing(Cases):
    def test_nothing_to_undo(self):
        play = Play(G)
        for _ in range(2):
            with self.assertRaises(NothingToUndo) as context:
                play.undo()
            self.assertEqual(context.exception.action, "remove")
            self.assert_state(play, G, ())

    def test_undo_returns_the_last_label(self):
        play = played(G, (2, 0, 1))
        self.assertEqual(play.undo(), 1)
        self.assert_state(play, G, (2, 0))
        self.assertEqual(play.undo(), 0)
        self.assert_state(play, G, (2,))
        self.assertEqual(play.undo(), 2)
        self.assert_state(play, G, ())
        with self.assertRaises(NothingToUndo):
            play.undo()
        self.assertEqual(play.remove(2), {0: 0})

    def test_random_play(self):
        rng = random.Random(9)
        for forest in random_forests() + [chain(60)]:
            play = Play(forest)
            run = ()
            for _ in range(60):
                ready = play.removable()
                if ready and rng.random() < 0.7:
                    run += (rng.choice(ready),)
                    play.remove(run[-1])
                elif run:
                    self.assertEqual(play.undo(), run[-1])
                    run = run[:-1]
                self.assert_state(play, forest, run)


class Copies(Cases):
    def test_copies_do_not_influence_each_other(self):
        play = played(F, (1,))
        other = play.copy()
        self.assertIsInstance(other, Play)
        self.assertIsNot(other, play)
        self.assertEqual(other, play)
        other.remove(0)
        self.assert_state(play, F, (1,))
        self.assert_state(other, F, (1, 0))
        play.undo()
        play.remove(0)
        self.assert_state(play, F, (0,))
        self.assert_state(other, F, (1, 0))

    def test_a_copy_of_a_new_play(self):
        play = Play(G)
        other = play.copy()
        play.remove(2)
        self.assert_state(other, G, ())
        self.assert_state(play, G, (2,))

    def test_a_copy_can_undo(self):
        play = played(G, (2, 0))
        other = play.copy()
        self.assertEqual([other.undo(), other.undo()], [0, 2])
        self.assert_state(play, G, (2, 0))


class Equality(unittest.TestCase):
    def test_by_forest_and_run_alone(self):
        self.assertTrue(Play(G) == Play(G))
        self.assertFalse(Play(G) != Play(G))
        self.assertFalse(Play(G) == Play(F))
        self.assertTrue(played(F, (0, 1)) != played(F, (1, 0)))
        self.assertFalse(played(F, (0,)) == played(F, (0, 1)))
        self.assertTrue(played(F, (0, 1)) == played(F, (0, 1)))

    def test_the_way_there_does_not_matter(self):
        play = played(F, (1, 0))
        play.undo()
        play.undo()
        play.remove(0)
        self.assertTrue(play == played(F, (0,)))

    def test_equal_numbers_in_other_forests(self):
        forest = ((2, 0, (0,), 2, None, 0, 0), F[1])
        self.assertFalse(Play(forest) == Play(F))
        self.assertFalse(played(forest, (0,)) == played(F, (0,)))

    def test_a_play_differs_from_all_other_values(self):
        play = played(F, (0,))
        for value in no_integers() + large_integers() + [F, (0,), [0], (F, (0,)), 1, "", Always(), Play, F[0]]:
            self.assertIs(play == value, False)
            self.assertIs(play != value, True)


class Making(unittest.TestCase):
    def test_len_is_the_length_of_the_run(self):
        self.assertEqual([len(played(G, (2, 0, 1)[:k])) for k in range(4)], [0, 1, 2, 3])

    def test_an_invalid_forest(self):
        for value, path in [((), ()), (None, ()), (list(G), ()), ((SINGLE, 3), (1,)), (chain(61), ())]:
            with self.assertRaises(InvalidForest) as context:
                Play(value)
            self.assertEqual(context.exception.path, path)
        with self.assertRaises(InvalidForest) as context:
            Play((SINGLE, node_with(SINGLE, shown=True)))
        self.assertEqual(context.exception.path, (1, "shown"))

    def test_by_name(self):
        play = Play(forest=MIXED)
        self.assertEqual(play.remove(label=2), {4: 2})
        self.assertEqual(play.run(), (2,))

    def test_plays_of_one_forest_are_independent(self):
        first = Play(F)
        second = Play(F)
        first.remove(0)
        self.assertEqual((first.run(), second.run()), ((0,), ()))
        self.assertEqual(second.shown(), (0, 0))


if __name__ == "__main__":
    unittest.main()
