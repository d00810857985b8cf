"""Reach: the greatest weight of the runs that meet a selection, and two runs that have it."""

from dialforest.errors import InvalidSelection, TooLarge, Unreachable
from dialforest.forests import ALLOWED, PARENT, SHOWN, SIZE, UP, WEIGHT
from dialforest.forests import child_labels, is_allowed, validate
from dialforest.rows import are_vectors, check_rows, is_integer, is_tuple_of, late_remainders, table_of, upward
from dialforest.runs import first_numbers, left_nodes, removable_labels, take_away

MOST_BEST = 24

# The three cases of a node. Each is the place of its weight in a reach row, too.
STAY = 0
EARLY = 1
LATE = 2
VECTORS = 3


def are_labels(value, many):
    """Return whether the value is a strictly ascending tuple of labels of a forest of `many` nodes."""
    if not isinstance(value, tuple):
        return False
    # Apart from the empty tuple, such labels have the form of allowed numbers.
    return len(value) == 0 or is_allowed(value, many)


def check_selection(forest, required, forbidden):
    """Raise InvalidForest, then InvalidSelection, if one of the values is not what it should be."""
    validate(forest)
    if not are_labels(required, len(forest)):
        raise InvalidSelection("required")
    if not are_labels(forbidden, len(forest)):
        raise InvalidSelection("forbidden")
    if any([label in forbidden for label in required]):
        raise InvalidSelection("both")


def plus(first, second):
    """Return the sum, or None if a part of it is None."""
    if first is None or second is None:
        return None
    return first + second


def greatest(weights):
    """Return the greatest of the weights that are not None, or None if there is none."""
    return max([weight for weight in weights if weight is not None], default=None)


def first_vector(node, is_forbidden):
    """Return the vector of a removed node before it takes in a child."""
    shown = None if is_forbidden else node[SHOWN]
    return tuple([node[WEIGHT] if remainder == shown else None for remainder in range(node[SIZE])])


def child_sums(vector, remainder, up, row):
    """Return the greatest weights at the remainder if a child with this amount and row stays, is early, is late."""
    here = vector[remainder]
    before = vector[(remainder - up) % len(vector)]
    return (plus(here, row[STAY]), plus(before, row[EARLY]), plus(here, row[LATE]))


def with_child(vector, up, row):
    """Return the vector that takes in a child with this amount and row."""
    return tuple([greatest(child_sums(vector, remainder, up, row)) for remainder in range(len(vector))])


def end_remainders(node, case):
    """Return the remainders of the last vector at which the node can be removed, early or late, ascending."""
    if case == EARLY:
        return node[ALLOWED]
    return () if node[PARENT] is None else late_remainders(node)


def weight_without(rows):
    """Return the greatest weight of several subtrees whose parents, if there are any, stay; None if there is none."""
    total = 0
    for row in rows:
        total = plus(total, greatest([row[STAY], row[EARLY]]))
    return total


def reach_row(forest, label, rows, required, forbidden):
    """Return the row of the node that the selection and the rows of its children give."""
    node = forest[label]
    below = child_labels(forest, label)
    stay = None if label in required else weight_without([rows[child] for child in below])
    vectors = [first_vector(node, label in forbidden)]
    for child in below:
        vectors.append(with_child(vectors[-1], forest[child][UP], rows[child]))
    last = vectors[-1]
    early = greatest([last[remainder] for remainder in end_remainders(node, EARLY)])
    late = greatest([last[remainder] for remainder in end_remainders(node, LATE)])
    return (stay, early, late, tuple(vectors))


def table_for(forest, required, forbidden):
    """Return the tuple of the reach rows, without any check."""
    return table_of(forest, lambda label, rows: reach_row(forest, label, rows, required, forbidden))


def weight_shown(forest, table):
    """Return the greatest weight that the rows of the roots show, or None if they show that there is none."""
    return weight_without([row for node, row in zip(forest, table) if node[PARENT] is None])


def reachable_weight(forest, table):
    """Return the greatest weight that the table shows; raise Unreachable if it shows that there is none."""
    weight = weight_shown(forest, table)
    if weight is None:
        raise Unreachable("selection")
    return weight


def reach_table(forest, *, required=(), forbidden=()):
    """Return the tuple of the reach rows."""
    check_selection(forest, required, forbidden)
    return table_for(forest, required, forbidden)


def greatest_weight(forest, *, required=(), forbidden=()):
    """Return the greatest weight of a run that meets the selection; raise Unreachable if there is no such run."""
    check_selection(forest, required, forbidden)
    return reachable_weight(forest, table_for(forest, required, forbidden))


def weight_left(forest, shown, required, forbidden):
    """Return the greatest weight that can still be removed while the nodes show these numbers, or None."""
    nodes, labels = left_nodes(forest, shown)
    wanted = [place for place, label in enumerate(labels) if label in required]
    kept = [place for place, label in enumerate(labels) if label in forbidden]
    return weight_shown(nodes, table_for(nodes, wanted, kept))


def next_of_best(forest, shown, missing, required, forbidden):
    """Return the smallest label after which the rest can have the weight that is still missing."""
    for label in removable_labels(forest, shown):
        after = list(shown)
        take_away(forest, after, label)
        rest = missing - forest[label][WEIGHT]
        if label not in forbidden and weight_left(forest, after, required, forbidden) == rest:
            return label
    return None


def best_run(forest, *, required=(), forbidden=()):
    """Return the smallest tuple among the runs that meet the selection and have the greatest weight."""
    check_selection(forest, required, forbidden)
    if len(forest) > MOST_BEST:
        raise TooLarge(MOST_BEST)
    missing = reachable_weight(forest, table_for(forest, required, forbidden))
    shown = first_numbers(forest)
    run = []
    while missing != 0 or any([shown[label] is not None for label in required]):
        label = next_of_best(forest, shown, missing, required, forbidden)
        missing = missing - forest[label][WEIGHT]
        take_away(forest, shown, label)
        run.append(label)
    return tuple(run)


def free_case(row):
    """Return the case that the trace gives a root, or a node whose parent stays."""
    stay = row[STAY]
    early = row[EARLY]
    return STAY if stay is not None and (early is None or stay >= early) else EARLY


def child_cases(forest, label, table, case):
    """Return a dict from the children of the node, which is in this case, to the cases that the trace gives them."""
    below = child_labels(forest, label)
    if case == STAY:
        return {child: free_case(table[child]) for child in below}
    vectors = table[label][VECTORS]
    weight = table[label][case]
    ends = [remainder for remainder in end_remainders(forest[label], case) if vectors[-1][remainder] == weight]
    at = ends[0]
    cases = {}
    for place, child in reversed(list(enumerate(below))):
        up = forest[child][UP]
        cases[child] = child_sums(vectors[place], at, up, table[child]).index(vectors[place + 1][at])
        if cases[child] == EARLY:
            at = (at - up) % forest[label][SIZE]
    return cases


def traced_cases(forest, table):
    """Return a dict from all labels to the cases that the trace gives them."""
    cases = {}
    for label in reversed(upward(forest)):
        if forest[label][PARENT] is None:
            cases[label] = free_case(table[label])
        cases.update(child_cases(forest, label, table, cases[label]))
    return cases


def earlier_neighbours(forest, cases, label):
    """Return the labels of the neighbours that must be removed before the node."""
    earlier = [child for child in child_labels(forest, label) if cases[child] == EARLY]
    if cases[label] == LATE:
        earlier.append(forest[label][PARENT])
    return earlier


def order_of(forest, cases):
    """Return the run of the nodes that do not stay, at each step the smallest label that can be next."""
    chosen = [label for label in range(len(forest)) if cases[label] != STAY]
    earlier = {label: earlier_neighbours(forest, cases, label) for label in chosen}
    run = []
    for _ in chosen:
        waiting = [label for label in chosen if label not in run]
        ready = [label for label in waiting if all([other in run for other in earlier[label]])]
        run.append(ready[0])
    return tuple(run)


def traced_run(forest, *, required=(), forbidden=()):
    """Return the run that follows the reach table."""
    check_selection(forest, required, forbidden)
    table = table_for(forest, required, forbidden)
    reachable_weight(forest, table)
    return order_of(forest, traced_cases(forest, table))


def is_weight(value):
    """Return whether the value can be an entry of a reach table."""
    return value is None or is_integer(value)


def has_form(forest, label, row):
    """Return whether the value has the form of the reach row of the node."""
    if not isinstance(row, tuple) or len(row) != VECTORS + 1:
        return False
    return is_tuple_of(row[:VECTORS], VECTORS, is_weight) and are_vectors(row[VECTORS], forest, label, is_weight)


def check_reach_table(forest, table, *, required=(), forbidden=()):
    """Return the greatest weight that the table shows, or None; raise InvalidTable if it is not the reach table."""
    check_selection(forest, required, forbidden)
    check_rows(forest, table, has_form, lambda label, rows: reach_row(forest, label, rows, required, forbidden))
    return weight_shown(forest, table)
