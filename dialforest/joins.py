"""Joins: two forests side by side, and a forest taken apart into its trees."""

from dialforest.errors import TooLarge
from dialforest.forests import DOWN, MOST_NODES, PARENT, UP, renamed, roots, subtree, validate
from dialforest.positions import with_parent


def moved(node, many):
    """Return the node in a forest in which `many` nodes stand before those of its own."""
    if node[PARENT] is None:
        return node
    return with_parent(node, node[PARENT] + many, node[DOWN], node[UP])


def place_beside(forest, other):
    """Return the forest that contains the nodes of `forest` and then those of `other`."""
    validate(forest)
    validate(other)
    if len(forest) + len(other) > MOST_NODES:
        raise TooLarge(MOST_NODES)
    return forest + tuple([moved(node, len(forest)) for node in other])


def tree_of(forest, root):
    """Return the forest of the subtree of the root, renumbered, and the tuple of its old labels."""
    labels = subtree(forest, root)
    return tuple([renamed(forest[label], labels) for label in labels]), labels


def trees(forest):
    """Return a pair for each root, ascending: the forest of its subtree and the tuple of the old labels."""
    return tuple([tree_of(forest, root) for root in roots(forest)])
