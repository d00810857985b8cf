import random
import time
import unittest

from dialforest.counts import count_runs, count_table
from dialforest.edits import affected, apply_edit
from dialforest.errors import InvalidEdit, InvalidForest, NotChild, NothingToUndo, NotRoot, WouldLoop
from dialforest.foresttexts import format_forest
from dialforest.preparation import least_price, preparation_table
from dialforest.reach import greatest_weight, reach_table
from dialforest.runs import Play
from dialforest.session import Session
from tests.changes import affected_by_words, edited_by_words, edits_of_all_kinds, error_by_words
from tests.changes import random_edit, random_edits
from tests.samples import F, G, MIXED, SINGLE, chain, clearable, downward_forest, free_forest, large_integers
from tests.samples import loose_forests, no_integers, node_with, random_forest, random_forests, shapes, small_forest
from tests.samples import small_forests, turning_forest


def values_of(session):
    """Return everything that a session tells of itself."""
    return (
        session.forest(), session.reach_table(), session.preparation_table(), session.count_table(),
        session.greatest_weight(), session.least_price(), session.count_runs(), session.work(), session.edits(),
        len(session), str(session),
    )


class Cases(unittest.TestCase):
    def assert_forest(self, session, forest):
        """The session tells what the functions tell of the forest."""
        self.assertEqual(session.forest(), forest)
        self.assertEqual(session.reach_table(), reach_table(forest))
        self.assertEqual(session.preparation_table(), preparation_table(forest))
        self.assertEqual(session.count_table(), count_table(forest))
        self.assertEqual(session.greatest_weight(), greatest_weight(forest))
        self.assertEqual(session.least_price(), least_price(forest))
        self.assertEqual(session.count_runs(), count_runs(forest))
        self.assertEqual(len(session), len(forest))
        self.assertEqual(str(session), format_forest(forest))

    def assert_nothing_to_undo(self, session):
        before = values_of(session)
        with self.assertRaises(NothingToUndo) as context:
            session.undo()
        self.assertEqual(context.exception.action, "apply")
        self.assertEqual(values_of(session), before)


class Examples(Cases):
    def test_the_example_of_the_document(self):
        session = Session(G)
        self.assertEqual(session.apply(("shown", 2, 1)), (2, 0))
        self.assertEqual(session.count_runs(), 0)
        self.assertEqual(session.work(), 2)


class New(Cases):
    def test_a_new_session(self):
        for forest in random_forests() + small_forests(4, 2) + [G, F, MIXED, chain(60)]:
            session = Session(forest)
            self.assert_forest(session, forest)
            self.assertEqual(session.work(), 0)
            self.assertEqual(session.edits(), ())
            self.assert_nothing_to_undo(session)

    def test_kinds_of_values(self):
        session = Session(G)
        self.assertIs(type(session.apply(("cut", 2))), tuple)
        for found in (session.forest(), session.reach_table(), session.preparation_table(), session.count_table()):
            self.assertIs(type(found), tuple)
        for found in (session.greatest_weight(), session.least_price(), session.count_runs(), session.work()):
            self.assertIs(type(found), int)
        self.assertIs(type(session.edits()), tuple)
        self.assertIs(type(str(session)), str)
        self.assertIs(type(session.copy()), Session)

    def test_values_that_are_no_forests(self):
        for value in no_integers() + large_integers() + [(), list(G), chain(61), Session(G)]:
            with self.assertRaises(InvalidForest):
                Session(value)
        with self.assertRaises(InvalidForest) as context:
            Session((SINGLE, node_with(SINGLE, shown=2)))
        self.assertEqual(context.exception.path, (1, "shown"))

    def test_by_name(self):
        session = Session(forest=G)
        self.assertEqual(session.apply(edit=("cut", 1)), (1, 0))
        self.assertEqual(session.forest(), apply_edit(G, ("cut", 1)))


class Applied(Cases):
    def follow(self, forest, edits):
        """Apply the edits, each for the forest that the ones before it give, and compare after each."""
        session = Session(forest)
        done = []
        work = 0
        for edit in edits:
            labels = affected_by_words(forest, edit)
            forest = edited_by_words(forest, edit)
            done.append(edit)
            work += len(labels)
            self.assertEqual(session.apply(edit), labels)
            self.assert_forest(session, forest)
            self.assertEqual(session.work(), work)
            self.assertEqual(session.edits(), tuple(done))
        return session

    def test_every_kind(self):
        rng = random.Random(141)
        for forest in small_forests(6, 3) + loose_forests(6, 3) + [G, F, MIXED]:
            for edit in edits_of_all_kinds(rng, forest):
                self.follow(forest, [edit])

    def test_long_rows_of_edits(self):
        rng = random.Random(142)
        for many in (1, 2, 3, 4, 5, 6, 8):
            for forest in (small_forest(rng, many), clearable(random_forest(rng, many))):
                self.follow(forest, random_edits(rng, forest, 60))

    def test_edits_of_larger_forests(self):
        rng = random.Random(143)
        for many in (20, 60):
            forest = clearable(random_forest(rng, many))
            self.follow(forest, random_edits(rng, forest, 30))

    def test_building_a_tree_of_single_nodes(self):
        forest = free_forest([None] * 8, [1] * 8)
        links = [("link", label, parent, 1, 1) for label, parent in [(1, 0), (2, 1), (7, 6), (6, 2), (3, 7), (5, 3)]]
        session = self.follow(forest, links)
        self.assertEqual(session.work(), 2 + 3 + 2 + 4 + 6 + 7)
        cuts = [("cut", 6), ("cut", 1), ("cut", 5)]
        session = self.follow(forest, links + cuts)
        self.assertEqual(session.work(), 24 + 4 + 2 + 4)

    def test_a_cut_makes_late_none(self):
        session = Session(G)
        session.apply(("cut", 1))
        self.assertIsNone(session.reach_table()[1][2])
        self.assertIsNone(session.preparation_table()[1][1])
        self.assertIsNone(session.count_table()[1][1])
        session.apply(("link", 1, 2, 2, 1))
        self.assertEqual(session.count_table()[1][1], (1,))

    def test_an_edit_that_changes_nothing_is_work(self):
        session = self.follow(G, [("shown", 2, 0), ("shown", 2, 0), ("weight", 0, 3)])
        self.assertEqual(session.work(), 5)
        self.assertEqual(session.forest(), G)


class Undone(Cases):
    def test_all_edits_are_taken_back(self):
        rng = random.Random(144)
        for many in (1, 2, 4, 7, 30):
            forest = clearable(random_forest(rng, many))
            session = Session(forest)
            past = []
            for edit in random_edits(rng, forest, 25):
                past.append((edit, values_of(session)))
                session.apply(edit)
            work = session.work()
            while past:
                edit, before = past.pop()
                self.assertEqual(session.undo(), edit)
                after = values_of(session)
                self.assertEqual(after[:7] + after[8:], before[:7] + before[8:])
                self.assertEqual(session.work(), work)
            self.assert_nothing_to_undo(session)
            self.assert_forest(session, forest)

    def test_edits_between_undoing(self):
        rng = random.Random(145)
        for many in (3, 6, 9):
            forests = [clearable(random_forest(rng, many))]
            session = Session(forests[0])
            edits = []
            work = 0
            for _ in range(80):
                if len(forests) > 1 and rng.random() < 0.4:
                    forests.pop()
                    self.assertEqual(session.undo(), edits.pop())
                else:
                    edit = random_edit(rng, forests[-1], rng.choice(["shown", "allowed", "amounts", "link", "cut"]))
                    if edit is not None:
                        work += len(affected(forests[-1], edit))
                        forests.append(apply_edit(forests[-1], edit))
                        edits.append(edit)
                        session.apply(edit)
                self.assert_forest(session, forests[-1])
                self.assertEqual(session.edits(), tuple(edits))
                self.assertEqual(session.work(), work)

    def test_undoing_adds_no_work(self):
        session = Session(G)
        session.apply(("shown", 2, 1))
        session.undo()
        self.assertEqual(session.work(), 2)
        session.apply(("weight", 0, 5))
        self.assertEqual(session.work(), 3)

    def test_nothing_to_undo(self):
        session = Session(G)
        self.assert_nothing_to_undo(session)
        session.apply(("cut", 1))
        self.assertEqual(session.undo(), ("cut", 1))
        self.assert_nothing_to_undo(session)


class Failed(Cases):
    def assert_unchanged(self, session, edit, name, field):
        before = values_of(session)
        with self.assertRaises((InvalidEdit, NotRoot, NotChild, WouldLoop)) as context:
            session.apply(edit)
        self.assertEqual(type(context.exception).__name__, name)
        self.assertEqual(vars(context.exception), {"path" if name == "InvalidEdit" else "label": field})
        self.assertEqual(values_of(session), before)

    def test_each_error(self):
        session = Session(G)
        session.apply(("weight", 1, 4))
        for edit, name, field in [
            (("turn", 1), "InvalidEdit", ()), (("cut", 3), "InvalidEdit", (1,)), (("shown", 0, 2), "InvalidEdit", (2,)),
            (("link", 1, 2, 0, 0), "NotRoot", 1), (("cut", 0), "NotChild", 0), (("amounts", 0, 0, 0), "NotChild", 0),
            (("link", 0, 1, 0, 0), "WouldLoop", 1), (("amounts", 1, 0, 2), "InvalidEdit", (3,)),
        ]:
            self.assert_unchanged(session, edit, name, field)
        session.apply(("cut", 1))
        self.assert_unchanged(session, ("link", 1, 0, 0, 2), "InvalidEdit", (4,))
        self.assert_unchanged(session, ("cut", 1), "NotChild", 1)
        self.assertEqual(session.undo(), ("cut", 1))

    def test_values_that_are_no_edits(self):
        session = Session(MIXED)
        for value in no_integers() + large_integers() + [(), ["cut", 3], ("cut",)]:
            self.assert_unchanged(session, value, "InvalidEdit", ())

    def test_wrong_items(self):
        rng = random.Random(146)
        session = Session(MIXED)
        for edit in random_edits(rng, MIXED, 30):
            for k in range(len(edit)):
                for value in (-1, 0, 1, 5, 12, True, None, (0,), "cut", "link"):
                    wrong = edit[:k] + (value,) + edit[k + 1:]
                    found = error_by_words(session.forest(), wrong)
                    if found:
                        self.assert_unchanged(session, wrong, *found)
            session.apply(edit)


class Copies(Cases):
    def test_a_copy_is_the_same(self):
        rng = random.Random(147)
        forest = clearable(random_forest(rng, 9))
        session = Session(forest)
        for edit in random_edits(rng, forest, 20):
            session.apply(edit)
            self.assertEqual(values_of(session.copy()), values_of(session))
        session.undo()
        self.assertEqual(values_of(session.copy()), values_of(session))
        self.assertIsNot(session.copy(), session)

    def test_copies_do_not_influence_each_other(self):
        session = Session(G)
        session.apply(("shown", 2, 1))
        other = session.copy()
        before = values_of(session)
        other.apply(("cut", 2))
        self.assertEqual(values_of(session), before)
        self.assertEqual(other.work(), 4)
        self.assertEqual(other.edits(), (("shown", 2, 1), ("cut", 2)))
        before = values_of(other)
        session.apply(("weight", 1, 9))
        session.undo()
        session.undo()
        self.assertEqual(values_of(other), before)
        self.assert_forest(session, G)

    def test_a_copy_undoes_the_earlier_edits(self):
        session = Session(MIXED)
        edits = [("cut", 3), ("link", 3, 1, 0, 0), ("shown", 0, 0), ("weight", 4, 1)]
        for edit in edits:
            session.apply(edit)
        first = session.copy()
        second = first.copy()
        for edit in reversed(edits):
            self.assertEqual(first.undo(), edit)
        self.assert_forest(first, MIXED)
        self.assert_nothing_to_undo(first)
        self.assertEqual(first.work(), session.work())
        self.assertEqual(second.edits(), tuple(edits))
        self.assertEqual(session.undo(), edits[3])
        self.assertEqual(second.undo(), edits[3])
        self.assert_forest(second, session.forest())


class Equality(Cases):
    def test_by_the_forest_alone(self):
        session = Session(G)
        self.assertEqual(session, Session(G))
        self.assertFalse(session != Session(G))
        session.apply(("shown", 2, 1))
        self.assertNotEqual(session, Session(G))
        self.assertEqual(session, Session(apply_edit(G, ("shown", 2, 1))))
        session.apply(("shown", 2, 0))
        self.assertEqual(session, Session(G))
        self.assertEqual((session.work(), Session(G).work()), (4, 0))
        self.assertEqual(session.copy(), session)
        session.undo()
        session.undo()
        self.assertEqual(session, Session(G))

    def test_other_forests(self):
        for forest in [F, MIXED, G[:1], apply_edit(G, ("weight", 0, 4)), apply_edit(G, ("cut", 1))]:
            self.assertNotEqual(Session(G), Session(forest))

    def test_other_values(self):
        session = Session(G)
        for value in no_integers() + large_integers() + [G, list(G), format_forest(G), Play(G), 3]:
            self.assertFalse(session == value)
            self.assertTrue(session != value)
            self.assertFalse(value == session)

    def test_length_and_text(self):
        for forest in [G, F, MIXED, (SINGLE,), chain(60)]:
            session = Session(forest)
            self.assertEqual(len(session), len(forest))
            self.assertEqual(str(session), format_forest(forest))
        session = Session(G)
        session.apply(("cut", 2))
        self.assertEqual(str(session), "2 1 0 3 - 0 0\n3 1 0 5 0 2 1\n2 0 0 -1 - 0 0")
        self.assertEqual(len(session), 3)


class Quick(Cases):
    def test_a_hundred_edits_of_sixty_nodes(self):
        rng = random.Random(148)
        for parents in shapes(60):
            forest = turning_forest(parents)
            session = Session(forest)
            began = time.perf_counter()
            for edit in random_edits(rng, forest, 100):
                session.apply(edit)
            self.assertLess(time.perf_counter() - began, 10)
            self.assert_forest(session, session.forest())
            while session.edits():
                session.undo()
            self.assert_forest(session, forest)

    def test_a_long_path(self):
        session = Session(downward_forest([None, *range(59)]))
        self.assertEqual(session.apply(("shown", 59, 0)), tuple(range(59, -1, -1)))
        self.assertEqual(session.count_runs(), count_runs(session.forest()))
        self.assertEqual(session.work(), 60)


if __name__ == "__main__":
    unittest.main()
