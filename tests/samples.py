"""Forests and odd values that several test files use."""

import random

from dialforest.preparation import least_preparation, prepared

G = ((2, 1, (0,), 3, None, 0, 0), (3, 1, (0,), 5, 0, 2, 1), (2, 0, (0,), -1, 0, 1, 1))
F = ((2, 0, (0,), 1, None, 0, 0), (2, 0, (0,), 1, None, 0, 0))
# Two trees whose children have smaller labels than their parents: 4 over 0 and 2, 0 over 3; 1 over 5.
MIXED = (
    (4, 3, (1, 2), 7, 4, 3, 2),
    (5, 0, (0, 4), -2, None, 0, 0),
    (2, 1, (0, 1), 0, 4, 1, 0),
    (12, 11, (0, 11), 10 ** 12, 0, 11, 3),
    (3, 2, (1,), -10 ** 12, None, 0, 0),
    (6, 5, (0, 2, 5), 1, 1, 4, 4),
)
SINGLE = (2, 0, (0,), 1, None, 0, 0)
FIELDS = ("size", "shown", "allowed", "weight", "parent", "down", "up")


def node_with(node, **fields):
    """Return the node with these fields replaced."""
    values = dict(zip(FIELDS, node))
    values.update(fields)
    return tuple(values[name] for name in FIELDS)


def forest_with(forest, label, **fields):
    """Return the forest in which these fields of one node are replaced."""
    return forest[:label] + (node_with(forest[label], **fields),) + forest[label + 1:]


def chain(many):
    """Return a forest of one path, in which every node but the first is the child of the one before it."""
    return tuple(node_with(SINGLE, parent=label - 1 if label else None) for label in range(many))


def random_forest(rng, many):
    """Return a forest of any shape, with its labels in any order."""
    places = list(range(many))
    rng.shuffle(places)
    sizes = [rng.randint(2, 12) for _ in places]
    nodes = [None] * many
    for k, label in enumerate(places):
        size = sizes[label]
        parent = rng.choice([None] + places[:k]) if rng.random() < 0.9 else None
        root = parent is None
        nodes[label] = (
            size,
            rng.randrange(size),
            tuple(sorted(rng.sample(range(size), rng.randint(1, size)))),
            rng.randint(-10 ** 12, 10 ** 12),
            parent,
            0 if root else rng.randrange(size),
            0 if root else rng.randrange(sizes[parent]),
        )
    return tuple(nodes)


def random_forests():
    """Return forests of 1 to 60 nodes, the same ones at every call."""
    rng = random.Random(7)
    many = [1, 1, 2, 2, 3, 3, 4, 5, 6, 8, 10, 13, 20, 35, 59, 60]
    return [random_forest(rng, k) for k in many * 3]


def small_forest(rng, many):
    """Return a forest with small dials and weights, in which many sets of nodes have equal weights."""
    sizes = [rng.randint(2, 3) for _ in range(many)]
    nodes = []
    for label, node in enumerate(random_forest(rng, many)):
        size = sizes[label]
        parent = node[4]
        nodes.append((
            size,
            rng.randrange(size),
            tuple(sorted(rng.sample(range(size), rng.choice([1, 1, 1, 2])))),
            rng.randint(-2, 3),
            parent,
            0 if parent is None else rng.randrange(size),
            0 if parent is None else rng.randrange(sizes[parent]),
        ))
    return tuple(nodes)


def small_forests(most, times):
    """Return forests of 1 to `most` nodes, `times` of each, the same ones at every call."""
    rng = random.Random(11)
    return [small_forest(rng, many) for many in range(1, most + 1) for _ in range(times)]


def loose_forest(rng, many):
    """Return a small forest in which most numbers are allowed, so that many orders clear it."""
    return tuple(
        node_with(node, allowed=tuple(sorted(rng.sample(range(node[0]), rng.choice([1, node[0] - 1, node[0]])))))
        for node in small_forest(rng, many)
    )


def loose_forests(most, times):
    """Return such forests of 1 to `most` nodes, `times` of each, the same ones at every call."""
    rng = random.Random(13)
    return [loose_forest(rng, many) for many in range(1, most + 1) for _ in range(times)]


def shapes(many):
    """Return tuples of the parents of forests of one or more trees, the labels in various orders."""
    rng = random.Random(17)
    return [
        (None,) * many,
        (None,) + (0,) * (many - 1),
        (many - 1,) * (many - 1) + (None,),
        (None, *range(many - 1)),
        (*range(1, many), None),
        (None, *[(k - 1) // 2 for k in range(1, many)]),
        (None, *[rng.choice([None, *range(k)]) for k in range(1, many)]),
        (None, *[rng.randrange(max(0, k - 4), k) for k in range(1, many)]),
    ]


def clearable(forest):
    """Return the forest with numbers with which some run clears it."""
    return prepared(forest, least_preparation(forest))


def turning_forest(parents):
    """Return a forest of the largest dials, in which every node turns its neighbours and can always be removed."""
    return tuple(
        (12, 3, tuple(range(12)), 1, parent, 0 if parent is None else 5, 0 if parent is None else 7)
        for parent in parents
    )


def downward_forest(parents):
    """Return a forest in which every node can be removed exactly when its parent was removed or does not exist."""
    return tuple(
        (2, 0, (0,), 1, None, 0, 0) if parent is None else (2, 1, (0,), 1, parent, 1, 0) for parent in parents
    )


def free_forest(parents, weights):
    """Return a forest in which every node can be removed at any time."""
    return tuple(
        (2, 0, (0, 1), weight, parent, 0 if parent is None else 1, 0 if parent is None else 1)
        for parent, weight in zip(parents, weights)
    )


def selections(rng, many, times):
    """Return selections of the labels below `many`, the empty one first."""
    found = [((), ())]
    for _ in range(times):
        kinds = [rng.choice("rf----") for _ in range(many)]
        found.append(tuple(tuple(k for k in range(many) if kinds[k] == kind) for kind in "rf"))
    return found


def nested(depth, kind):
    """Return lists or tuples that are nested so deep."""
    value = kind()
    for _ in range(depth - 1):
        value = kind([value])
    return value


def no_integers():
    """Return values of many kinds, none of which is an integer or a tuple of integers."""
    return [
        None, True, False, "", "0", "1", "-", b"0", [], [0], [0, 1, 2], {}, {0: 0}, {0}, frozenset([0]), object(),
        int, len, range(3), ("0",), (True,), (False,), (None,), ((0,),), ([0],), (object(),),
        nested(30, list), nested(30, tuple), [0] * 100000, ("a",) * 100000, {k: k for k in range(1000)},
    ]


def large_integers():
    """Return integers that are outside of every range of the document."""
    return [-1, -2, -10 ** 12 - 1, -10 ** 3999, 10 ** 12 + 1, 2 ** 64, 10 ** 3999]
