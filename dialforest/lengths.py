"""Runs by length: how many runs of a small forest have each number of nodes."""

from math import comb

from dialforest.counts import added_up, first_stage, taken_in
from dialforest.errors import TooLarge
from dialforest.forests import ALLOWED, PARENT, SIZE, UP, child_labels, validate
from dialforest.rows import late_remainders, table_of

MOST_LENGTHS = 24

# The places in a row of this file. Each part of a row has one item for each number of nodes that are removed from the
# subtree: the number of orders in which the node stays, and vectors like those of a count row for early and late.
STAY = 0
EARLY = 1
LATE = 2


def mixed(first, second):
    """Return how many sequences of each length mix one of the first kind and one of the second kind.

    `first` and `second` are the numbers of sequences of each length.
    """
    found = [0] * (len(first) + len(second) - 1)
    for few, ways in enumerate(first):
        for more, others in enumerate(second):
            found[few + more] += ways * others * comb(few + more, more)
    return found


def free_orders(row):
    """Return, for each length, the number of orders of a subtree whose root has no parent, or one that stays."""
    return [stay + sum(early) for stay, early in zip(row[STAY], row[EARLY])]


def sum_of_stages(stages):
    """Return the stage whose entries are the sums of the entries of these stages."""
    return tuple([tuple([sum(entries) for entries in zip(*vectors)]) for vectors in zip(*stages)])


def orders_before(row, many):
    """Return the numbers of orders of `many` nodes that turn the parent if 0, 1, 2 .. of them come before it."""
    early = row[EARLY][many]
    return [sum(early[:place]) for place in range(many + 1)]


def orders_after(row, many):
    """Return the numbers of orders of `many` nodes that do not turn the parent if 0, 1, 2 .. come before it."""
    late = row[LATE][many]
    return [row[STAY][many] + sum(late[place:]) for place in range(many + 1)]


def with_branch(stages, up, row):
    """Return the stages, one for each number of nodes, that take in a child with this amount and row."""
    parts = [[] for _ in range(len(stages) + len(row[STAY]) - 1)]
    for few, stage in enumerate(stages):
        for more in range(len(row[STAY])):
            parts[few + more].append(taken_in(stage, up, orders_before(row, more), orders_after(row, more)))
    return [sum_of_stages(part) for part in parts]


def length_row(forest, label, rows):
    """Return the row of the node that the rows of its children give."""
    node = forest[label]
    without = [1]
    # No order of no nodes has the node in it: the first stage is one of empty vectors.
    stages = [((),) * node[SIZE], first_stage(node)]
    for child in child_labels(forest, label):
        without = mixed(without, free_orders(rows[child]))
        stages = with_branch(stages, forest[child][UP], rows[child])
    early = [added_up(stage, node[ALLOWED]) for stage in stages]
    late = [added_up(stage, late_remainders(node)) for stage in stages]
    return (without + [0], early, late)


def length_counts(forest):
    """Return the number of runs of each length, from 0 to the number of nodes."""
    validate(forest)
    if len(forest) > MOST_LENGTHS:
        raise TooLarge(MOST_LENGTHS)
    table = table_of(forest, lambda label, rows: length_row(forest, label, rows))
    found = [1]
    for node, row in zip(forest, table):
        if node[PARENT] is None:
            found = mixed(found, free_orders(row))
    return tuple(found)
