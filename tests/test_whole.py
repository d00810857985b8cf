"""What the points of the document promise over several files at once."""

import math
import random
import unittest

from dialforest.counts import check_count_table, count_runs, count_table
from dialforest.edits import affected, apply_edit, inverse
from dialforest.foresttexts import format_forest, parse_forest
from dialforest.forests import mirror, relabel, roots
from dialforest.joins import place_beside, trees
from dialforest.lengths import length_counts
from dialforest.positions import edge_counts, position_counts, rerooted
from dialforest.preparation import check_preparation_table, least_preparation, least_price, preparation_table, prepared
from dialforest.ranks import next_run, rank_of, run_at
from dialforest.reach import best_run, check_reach_table, greatest_weight, reach_table, traced_run
from dialforest.runs import Play, check_run, is_run, remaining, removable, run_weight, shown_after
from dialforest.session import Session
from tests.changes import edits_of_all_kinds, random_edits
from tests.oracles import branch
from tests.samples import F, G, MIXED, chain, clearable, downward_forest, loose_forests, random_forest, shapes
from tests.samples import small_forests, turning_forest


def forests_up_to(many):
    """Return forests of 1 to `many` nodes of various shapes, most of which some run clears."""
    rng = random.Random(151)
    sizes = [size for size in (1, 2, 3, 5, 8, 12, 16, 20, 24, 37, 60) if size <= many]
    found = [random_forest(rng, size) for size in sizes]
    found += [clearable(random_forest(rng, size)) for size in sizes for _ in range(2)]
    found += [clearable(forest) for forest in loose_forests(6, 2)] + [G, F, MIXED, clearable(chain(many))]
    for parents in shapes(many)[1:]:
        found += [downward_forest(parents), turning_forest(parents)]
    return found


def numbers_of(forest):
    """Return the greatest weight, the least price and the number of clearing runs."""
    return greatest_weight(forest), least_price(forest), count_runs(forest)


class Remaining(unittest.TestCase):
    def test_the_runs_of_the_rest_continue_the_run(self):
        for forest in small_forests(5, 3) + loose_forests(5, 3):
            play = Play(forest)
            while len(play) < len(forest):
                rest, labels = remaining(forest, play.run())
                self.assertEqual(removable(forest, run=play.run()), tuple(labels[k] for k in removable(rest)))
                for k, label in enumerate(labels):
                    self.assertEqual(is_run(rest, (k,)), is_run(forest, play.run() + (label,)))
                if not play.removable():
                    break
                play.remove(play.removable()[-1])

    def test_numbers_by_the_first_node(self):
        for forest in forests_up_to(16):
            first = {label: remaining(forest, (label,))[0] for label in removable(forest) if len(forest) > 1}
            if not first:
                continue
            self.assertEqual(sum(count_runs(rest) for rest in first.values()), count_runs(forest))
            counts = [length_counts(rest) for rest in first.values()]
            self.assertEqual(tuple(sum(entries) for entries in zip(*counts)), length_counts(forest)[1:])
            for label in range(len(forest)):
                wanted = count_runs(first[label]) if label in first else 0
                self.assertEqual(position_counts(forest, label)[0], wanted)

    def test_the_heaviest_rest(self):
        for forest in forests_up_to(24):
            run = best_run(forest)
            for length in range(min(len(run), len(forest) - 1) + 1):
                rest, _ = remaining(forest, run[:length])
                self.assertEqual(greatest_weight(rest), run_weight(forest, run) - run_weight(forest, run[:length]))

    def test_a_rest_can_be_prepared_by_itself(self):
        for forest in forests_up_to(24):
            run = traced_run(forest)[:len(forest) - 1]
            rest, labels = remaining(forest, run)
            shown = shown_after(forest, run)
            self.assertEqual([node[1] for node in rest], [shown[label] for label in labels])
            self.assertGreater(count_runs(prepared(rest, least_preparation(rest))), 0)


class Clearing(unittest.TestCase):
    def test_three_ways_to_tell_whether_a_run_clears(self):
        found = []
        for forest in forests_up_to(60) + small_forests(6, 8):
            clears = count_runs(forest) > 0
            found.append(clears)
            self.assertEqual(least_price(forest) == 0, clears)
            table = reach_table(forest, required=tuple(range(len(forest))))
            weight = check_reach_table(forest, table, required=tuple(range(len(forest))))
            self.assertEqual(weight is not None, clears)
            if clears:
                self.assertEqual(weight, sum(node[3] for node in forest))
        self.assertGreater(found.count(False), 10)
        self.assertGreater(found.count(True), 10)

    def test_every_forest_can_be_prepared(self):
        for forest in forests_up_to(60) + small_forests(6, 8):
            found = prepared(forest, least_preparation(forest))
            self.assertGreater(count_runs(found), 0)
            self.assertEqual(least_price(found), 0)
            changed = sum(node[1] != other[1] for node, other in zip(forest, found))
            self.assertEqual(changed, least_price(forest))

    def test_counts_positions_edges_and_lengths(self):
        for forest in forests_up_to(24):
            many = count_runs(forest)
            self.assertEqual(length_counts(forest)[-1], many)
            self.assertEqual(check_count_table(forest, count_table(forest)), many)
            counts = [position_counts(forest, label) for label in range(len(forest))]
            for entries in counts + list(zip(*counts)):
                self.assertEqual(sum(entries), many)
            for label, node in enumerate(forest):
                if node[4] is not None:
                    self.assertEqual(sum(edge_counts(forest, label)), many)

    def test_ranks_and_counts(self):
        for forest in forests_up_to(12):
            many = count_runs(forest)
            smaller = 0
            for label in range(len(forest)):
                first = position_counts(forest, label)[0]
                if first:
                    run = run_at(forest, smaller)
                    self.assertEqual(run[0], label)
                    self.assertEqual(rank_of(forest, run), smaller)
                    self.assertEqual(run_at(forest, smaller + first - 1)[0], label)
                smaller += first
            self.assertEqual(smaller, many)
            if many:
                last = run_at(forest, many - 1)
                check_run(forest, last)
                self.assertIsNone(next_run(forest, last))
                self.assertEqual(run_weight(forest, last), sum(node[3] for node in forest))
                self.assertEqual(set(shown_after(forest, last)), {None})


class Trees(unittest.TestCase):
    def test_numbers_of_the_trees(self):
        for forest in forests_up_to(60):
            parts = [tree for tree, _ in trees(forest)]
            weights, prices, counts = zip(*[numbers_of(tree) for tree in parts])
            ways = math.factorial(len(forest))
            for tree in parts:
                ways //= math.factorial(len(tree))
            self.assertEqual(numbers_of(forest), (sum(weights), sum(prices), math.prod(counts) * ways))

    def test_rows_of_the_trees(self):
        for forest in forests_up_to(60):
            for tree, labels in trees(forest):
                for table_of in (reach_table, preparation_table, count_table):
                    table = table_of(forest)
                    self.assertEqual(table_of(tree), tuple(table[label] for label in labels))

    def test_forests_side_by_side(self):
        found = forests_up_to(20)
        for forest, other in zip(found, found[::-1]):
            both = place_beside(forest, other)
            for table_of in (reach_table, preparation_table, count_table):
                self.assertEqual(table_of(both), table_of(forest) + table_of(other))
            self.assertEqual(roots(both), roots(forest) + tuple(root + len(forest) for root in roots(other)))
            ways = math.comb(len(both), len(forest))
            self.assertEqual(count_runs(both), count_runs(forest) * count_runs(other) * ways)
            self.assertEqual(least_preparation(both), least_preparation(forest) + least_preparation(other))


class Forms(unittest.TestCase):
    def test_the_mirror(self):
        for forest in forests_up_to(16):
            other = mirror(forest)
            self.assertEqual(mirror(other), forest)
            self.assertEqual(count_runs(other), count_runs(forest))
            for label, node in enumerate(forest):
                self.assertEqual(position_counts(other, label), position_counts(forest, label)[::-1])
                self.assertEqual(rerooted(other, label), mirror(rerooted(forest, label)))
                if node[4] is not None:
                    self.assertEqual(edge_counts(other, label), edge_counts(forest, label)[::-1])
            if count_runs(forest):
                run = run_at(forest, count_runs(forest) // 2)[::-1]
                self.assertEqual(run_at(other, rank_of(other, run)), run)

    def test_relabelled_forests(self):
        rng = random.Random(152)
        for forest in forests_up_to(16):
            order = tuple(rng.sample(range(len(forest)), len(forest)))
            other = relabel(forest, order)
            self.assertEqual(numbers_of(other), numbers_of(forest))
            self.assertEqual(length_counts(other), length_counts(forest))
            for k, label in enumerate(order):
                self.assertEqual(position_counts(other, k), position_counts(forest, label))
                self.assertEqual(rerooted(other, k), relabel(rerooted(forest, label), order))
            if count_runs(forest):
                run = tuple(order.index(label) for label in run_at(forest, 0))
                self.assertEqual(run_at(other, rank_of(other, run)), run)

    def test_rerooted_forests(self):
        rng = random.Random(153)
        for forest in forests_up_to(24):
            for label in {0, len(forest) - 1, rng.randrange(len(forest))}:
                other = rerooted(forest, label)
                self.assertEqual(numbers_of(other), numbers_of(forest))
                self.assertEqual(least_preparation(other), least_preparation(forest))
                self.assertEqual(best_run(other), best_run(forest))
                self.assertEqual(length_counts(other), length_counts(forest))
                self.assertEqual(position_counts(other, 0), position_counts(forest, 0))
                if len(forest) <= 16 and count_runs(forest):
                    last = count_runs(forest) - 1
                    self.assertEqual(run_at(other, last), run_at(forest, last))

    def test_texts(self):
        for forest in forests_up_to(60):
            self.assertEqual(parse_forest(str(Session(forest))), forest)
            self.assertEqual(str(Session(parse_forest(format_forest(forest)))), format_forest(forest))


class Edited(unittest.TestCase):
    def test_tables_of_a_session_and_of_a_new_forest(self):
        rng = random.Random(154)
        for forest in forests_up_to(24):
            session = Session(forest)
            for edit in random_edits(rng, forest, 6):
                labels = affected(session.forest(), edit)
                before = session.copy()
                new = apply_edit(session.forest(), edit)
                self.assertEqual(session.apply(edit), labels)
                self.assertEqual(session, Session(new))
                self.assertEqual(check_reach_table(new, session.reach_table()), session.greatest_weight())
                self.assertEqual(check_preparation_table(new, session.preparation_table()), session.least_price())
                self.assertEqual(check_count_table(new, session.count_table()), session.count_runs())
                shown = (session.greatest_weight(), session.least_price(), session.count_runs())
                self.assertEqual(numbers_of(new), shown)
                self.assertEqual(session.work(), before.work() + len(labels))
                back = before.copy()
                back.apply(edit)
                back.apply(inverse(before.forest(), edit))
                self.assertEqual(back, before)
                self.assertEqual(back.count_table(), before.count_table())

    def test_a_cut_and_a_link_move_a_whole_tree(self):
        rng = random.Random(155)
        for forest in forests_up_to(24):
            for edit in edits_of_all_kinds(rng, forest):
                if edit[0] == "cut":
                    new = apply_edit(forest, edit)
                    labels = tuple(sorted(branch(forest, edit[1])))
                    self.assertIn(labels, [part for _, part in trees(new)])
                    self.assertEqual(len(trees(new)), len(trees(forest)) + 1)
                if edit[0] == "link":
                    self.assertEqual(len(trees(apply_edit(forest, edit))), len(trees(forest)) - 1)


if __name__ == "__main__":
    unittest.main()
