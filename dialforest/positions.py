"""Positions: how often a node has each position in the clearing runs, and which end of an edge goes first."""

from dialforest.counts import EARLY, count_row, orders_of_trees, runs_shown, table_for, taken_in
from dialforest.errors import NotChild
from dialforest.forests import DOWN, PARENT, UP, path_labels, require_label
from dialforest.rows import table_of


def with_parent(node, parent, down, up):
    """Return the node with this parent and these amounts."""
    return node[:PARENT] + (parent, down, up)


def rerooted(forest, label):
    """Return the forest in which the node is the root of its tree: the edges of its path are turned around."""
    require_label(forest, label)
    nodes = list(forest)
    nodes[label] = with_parent(forest[label], None, 0, 0)
    path = path_labels(forest, label)
    for child, parent in zip(path, path[1:]):
        nodes[parent] = with_parent(forest[parent], child, forest[child][UP], forest[child][DOWN])
    return tuple(nodes)


def position_counts(forest, label):
    """Return the number of clearing runs in which the node has each position."""
    nodes = rerooted(forest, label)
    table = table_for(nodes)
    own = table[label][EARLY]
    beside = [table[other] for other, node in enumerate(nodes) if node[PARENT] is None and other != label]
    # The other trees never turn the node, so they are taken in like a subtree of which every order suits it.
    places = len(forest) - len(own) + 1
    found = taken_in((own,), 0, [orders_of_trees(beside)] * places, [0] * places)
    return found[0]


def row_if_first(forest, label, rows, first):
    """Return the count row of the node, in which no order is late-legal if it is the node `first`."""
    early, late, stages = count_row(forest, label, rows)
    return (early, (0,) * len(late), stages) if label == first else (early, late, stages)


def edge_counts(forest, label):
    """Return the number of clearing runs in which the node is removed before its parent, and after it."""
    require_label(forest, label)
    if forest[label][PARENT] is None:
        raise NotChild(label)
    every = runs_shown(forest, table_for(forest))
    before = runs_shown(forest, table_of(forest, lambda place, rows: row_if_first(forest, place, rows, label)))
    return (before, every - before)
