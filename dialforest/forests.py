"""Forests: which values are forests, the plain questions about their shape, and two ways to rewrite them."""

from dialforest.errors import InvalidForest, InvalidLabel, InvalidOrder

MOST_NODES = 60
MOST_SIZE = 12
MOST_WEIGHT = 10 ** 12

# The places of the fields of a node, and their number.
SIZE = 0
SHOWN = 1
ALLOWED = 2
WEIGHT = 3
PARENT = 4
DOWN = 5
UP = 6
FIELDS = 7


def make_node(size, shown, allowed, *, weight=1, parent=None, down=0, up=0):
    """Return the node tuple, unchecked."""
    return (size, shown, allowed, weight, parent, down, up)


def is_between(value, least, most):
    """Return whether `value` is an integer from `least` to `most`; True and False are not integers."""
    return isinstance(value, int) and not isinstance(value, bool) and least <= value <= most


def is_allowed(value, size):
    """Return whether `value` can be the allowed numbers of a dial of this size."""
    if not isinstance(value, tuple) or len(value) == 0:
        return False
    least = 0
    for number in value:
        if not is_between(number, least, size - 1):
            return False
        least = number + 1
    return True


def is_parent(value, label, many):
    """Return whether `value` can be the parent of the node `label` among `many` nodes."""
    return value is None or (is_between(value, 0, many - 1) and value != label)


def wrong_field(node, label, many):
    """Return the name of the first field that is wrong by itself, or None.

    `node` is a tuple of 7 items, the node `label` among `many` nodes.
    """
    size, shown, allowed, weight, parent, down, up = node
    if not is_between(size, 2, MOST_SIZE):
        return "size"
    if not is_between(shown, 0, size - 1):
        return "shown"
    if not is_allowed(allowed, size):
        return "allowed"
    if not is_between(weight, -MOST_WEIGHT, MOST_WEIGHT):
        return "weight"
    if not is_parent(parent, label, many):
        return "parent"
    if not is_between(down, 0, 0 if parent is None else size - 1):
        return "down"
    if not is_between(up, 0, 0 if parent is None else MOST_SIZE - 1):
        return "up"
    return None


def wrong_node(nodes):
    """Return the path to the first node or field that is wrong by itself, or None."""
    for label, node in enumerate(nodes):
        if not isinstance(node, tuple) or len(node) != FIELDS:
            return (label,)
        name = wrong_field(node, label, len(nodes))
        if name is not None:
            return (label, name)
    return None


def reaches_root(nodes, label):
    """Return whether following parents from the node ends."""
    at = label
    # A path without a loop leaves its root after at most as many steps as there are nodes.
    for _ in nodes:
        if at is not None:
            at = nodes[at][PARENT]
    return at is None


def fits_parent(nodes, label):
    """Return whether `up` of the node is less than the size of its parent, if it has one."""
    parent = nodes[label][PARENT]
    return parent is None or nodes[label][UP] < nodes[parent][SIZE]


def first_violation(value):
    """Return the path to the first violation that keeps `value` from being a forest, or None."""
    if not isinstance(value, tuple) or not 1 <= len(value) <= MOST_NODES:
        return ()
    path = wrong_node(value)
    if path is not None:
        return path
    for label in range(len(value)):
        if not reaches_root(value, label):
            return (label, "parent")
    for label in range(len(value)):
        if not fits_parent(value, label):
            return (label, "up")
    return None


def validate(forest):
    """Raise InvalidForest if the value is not a forest."""
    path = first_violation(forest)
    if path is not None:
        raise InvalidForest(path)


def is_forest(value):
    """Return whether `value` is a forest."""
    return first_violation(value) is None


def require_label(forest, label):
    """Raise InvalidLabel if the value is not a label of the forest."""
    validate(forest)
    if not is_between(label, 0, len(forest) - 1):
        raise InvalidLabel(label)


def roots(forest):
    """Return the labels of the roots, ascending."""
    validate(forest)
    return tuple([label for label, node in enumerate(forest) if node[PARENT] is None])


def child_labels(forest, label):
    """Return the labels of the children, ascending, without any check."""
    return tuple([child for child, node in enumerate(forest) if node[PARENT] == label])


def path_labels(forest, label):
    """Return the path as a tuple of labels, without any check."""
    path = []
    at = label
    while at is not None:
        path.append(at)
        at = forest[at][PARENT]
    return tuple(path)


def children(forest, label):
    """Return the labels of the children, ascending."""
    require_label(forest, label)
    return child_labels(forest, label)


def neighbours(forest, label):
    """Return the labels of the parent, if there is one, and of the children, ascending."""
    require_label(forest, label)
    found = list(child_labels(forest, label))
    parent = forest[label][PARENT]
    if parent is not None:
        found.append(parent)
    return tuple(sorted(found))


def path_to_root(forest, label):
    """Return the path as a tuple of labels."""
    require_label(forest, label)
    return path_labels(forest, label)


def subtree(forest, label):
    """Return the labels of the subtree, ascending."""
    require_label(forest, label)
    return tuple([other for other in range(len(forest)) if label in path_labels(forest, other)])


def is_order(value, many):
    """Return whether `value` is a tuple that contains every label from 0 to `many - 1` once."""
    if not isinstance(value, tuple) or len(value) != many:
        return False
    if not all([is_between(label, 0, many - 1) for label in value]):
        return False
    return len(set(value)) == many


def renamed(node, order):
    """Return the node with its parent renamed to the place of the parent in `order`."""
    size, shown, allowed, weight, parent, down, up = node
    if parent is not None:
        parent = order.index(parent)
    return (size, shown, allowed, weight, parent, down, up)


def relabel(forest, order):
    """Return the forest in which the node with the old label `order[k]` has the label `k`."""
    validate(forest)
    if not is_order(order, len(forest)):
        raise InvalidOrder(order)
    return tuple([renamed(forest[label], order) for label in order])


def mirrored(forest, label):
    """Return the node of the mirror that stands for the node `label`."""
    size, shown, allowed, weight, parent, down, up = forest[label]
    into = down + sum([forest[child][UP] for child in child_labels(forest, label)])
    # The amount `up` turns the dial of the parent, so it wraps around at that size.
    if parent is not None:
        up = -up % forest[parent][SIZE]
    return (size, (shown + into) % size, allowed, weight, parent, -down % size, up)


def mirror(forest):
    """Return the forest that the reversed clearing runs clear."""
    validate(forest)
    return tuple([mirrored(forest, label) for label in range(len(forest))])
