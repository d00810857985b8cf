"""Counting clearing runs: in how many orders all nodes can be removed, by the position of a node."""

from math import comb

from dialforest.forests import ALLOWED, PARENT, SHOWN, SIZE, UP
from dialforest.forests import child_labels, path_labels, validate
from dialforest.rows import check_rows, is_integer, is_tuple_of, late_remainders, table_of

# The places in a count row.
EARLY = 0
LATE = 1
STAGES = 2
ROW = 3


def interleavings(position, many, earlier, others):
    """Return in how many ways a sequence of `others` items mixes with one of `many` items.

    `earlier` of the other items come before the item at this position of the `many`.
    """
    later = others - earlier
    return comb(position + earlier, earlier) * comb(many - 1 - position + later, later)


def add_times(vector, start, factor, amounts):
    """Change the entries of `vector` from `start` on: add the amounts, each times the factor."""
    if factor != 0:
        for place, amount in enumerate(amounts):
            vector[start + place] += factor * amount


def taken_in(stage, up, before, after):
    """Return the stage with more nodes, which turn the node of the stage by `up` or not at all.

    Entry `t` of `before` and of `after` is the number of orders of these nodes, of which `t` come earlier than the
    node of the stage, that turn it before its turn, and that do not.
    """
    size = len(stage)
    many = len(stage[0])
    others = len(before) - 1
    found = [[0] * (many + others) for _ in stage]
    for position in range(many):
        ways = [interleavings(position, many, earlier, others) for earlier in range(others + 1)]
        turning = [way * orders for way, orders in zip(ways, before)]
        leaving = [way * orders for way, orders in zip(ways, after)]
        for remainder, vector in enumerate(stage):
            add_times(found[(remainder + up) % size], position, vector[position], turning)
            add_times(found[remainder], position, vector[position], leaving)
    return tuple([tuple(vector) for vector in found])


def with_child(stage, up, row):
    """Return the stage that takes in a child with this amount and row."""
    early = row[EARLY]
    late = row[LATE]
    places = range(len(early) + 1)
    return taken_in(stage, up, [sum(early[:place]) for place in places], [sum(late[place:]) for place in places])


def first_stage(node):
    """Return the stage of the node before it takes in a child."""
    return tuple([(1,) if number == node[SHOWN] else (0,) for number in range(node[SIZE])])


def added_up(stage, remainders):
    """Return the sum of the vectors at these remainders, position by position."""
    return tuple([sum([stage[remainder][place] for remainder in remainders]) for place in range(len(stage[0]))])


def row_of(node, stages):
    """Return the row of the node that these stages give."""
    early = added_up(stages[-1], node[ALLOWED])
    late = None if node[PARENT] is None else added_up(stages[-1], late_remainders(node))
    return (early, late, stages)


def count_row(forest, label, rows):
    """Return the row of the node that the rows of its children give."""
    stages = [first_stage(forest[label])]
    for child in child_labels(forest, label):
        stages.append(with_child(stages[-1], forest[child][UP], rows[child]))
    return row_of(forest[label], tuple(stages))


def table_for(forest):
    """Return the tuple of the count rows, without any check."""
    return table_of(forest, lambda label, rows: count_row(forest, label, rows))


def orders_of_trees(rows):
    """Return in how many orders the trees whose roots have these rows can be removed together."""
    found = 1
    many = 0
    for row in rows:
        more = len(row[EARLY])
        many = many + more
        found = found * sum(row[EARLY]) * comb(many, more)
    return found


def runs_shown(forest, table):
    """Return the number of clearing runs that the rows of the roots show."""
    return orders_of_trees([row for node, row in zip(forest, table) if node[PARENT] is None])


def count_table(forest):
    """Return the tuple of the count rows."""
    validate(forest)
    return table_for(forest)


def count_runs(forest):
    """Return the number of clearing runs."""
    validate(forest)
    return runs_shown(forest, table_for(forest))


def nodes_below(forest, label):
    """Return the number of nodes in the subtree of the node."""
    return len([other for other in range(len(forest)) if label in path_labels(forest, other)])


def stage_lengths(forest, label):
    """Return a list with the number of nodes that each stage of the node describes."""
    lengths = [1]
    for child in child_labels(forest, label):
        lengths.append(lengths[-1] + nodes_below(forest, child))
    return lengths


def is_vector(value, many):
    """Return whether the value is a tuple of `many` integers."""
    return is_tuple_of(value, many, is_integer)


def is_stage(value, size, many):
    """Return whether the value has the form of a stage of `many` nodes for a dial of this size."""
    return is_tuple_of(value, size, lambda vector: is_vector(vector, many))


def are_stages(value, size, lengths):
    """Return whether the value has the form of stages of these numbers of nodes."""
    if not isinstance(value, tuple) or len(value) != len(lengths):
        return False
    return all([is_stage(stage, size, many) for stage, many in zip(value, lengths)])


def has_form(forest, label, row):
    """Return whether the value has the form of the count row of the node."""
    lengths = stage_lengths(forest, label)
    if not isinstance(row, tuple) or len(row) != ROW or not is_vector(row[EARLY], lengths[-1]):
        return False
    if forest[label][PARENT] is None and row[LATE] is not None:
        return False
    if forest[label][PARENT] is not None and not is_vector(row[LATE], lengths[-1]):
        return False
    return are_stages(row[STAGES], forest[label][SIZE], lengths)


def confirmed_row(forest, label, table):
    """Return the row that the rows of the children give, or None if one of its stages is not the one in the table."""
    stages = table[label][STAGES]
    expected = first_stage(forest[label])
    for stage, child in zip(stages, child_labels(forest, label)):
        # Stopping here keeps the integers short: the rows of wrong children can make them longer with every stage.
        if stage != expected:
            return None
        expected = with_child(stage, forest[child][UP], table[child])
    return row_of(forest[label], stages) if stages[-1] == expected else None


def check_count_table(forest, table):
    """Return the number of clearing runs that the table shows; raise InvalidTable if it is not the count table."""
    validate(forest)
    check_rows(forest, table, has_form, lambda label, rows: confirmed_row(forest, label, rows))
    return runs_shown(forest, table)
