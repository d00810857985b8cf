"""What the tables of rows have in common: the order of working them out, and how a given table is checked."""

from dialforest.errors import InvalidTable
from dialforest.forests import ALLOWED, DOWN, SIZE, child_labels, path_labels


def upward(forest):
    """Return a list of all labels in which every node stands before its parent."""
    return sorted(range(len(forest)), key=lambda label: -len(path_labels(forest, label)))


def table_of(forest, row_from):
    """Return the table; `row_from(label, rows)` gives a row from those of the children in `rows`."""
    rows = [None] * len(forest)
    for label in upward(forest):
        rows[label] = row_from(label, rows)
    return tuple(rows)


def late_remainders(node):
    """Return the remainders that the amount of the parent turns into allowed numbers, ascending."""
    size = node[SIZE]
    return [remainder for remainder in range(size) if (remainder + node[DOWN]) % size in node[ALLOWED]]


def is_integer(value):
    """Return whether the value is an integer; True and False are not."""
    return isinstance(value, int) and not isinstance(value, bool)


def is_tuple_of(value, many, is_item):
    """Return whether the value is a tuple of `many` items that all satisfy `is_item`."""
    return isinstance(value, tuple) and len(value) == many and all([is_item(item) for item in value])


def are_vectors(value, forest, label, is_entry):
    """Return whether the value has the form of the vectors of the node, with entries that satisfy `is_entry`."""
    size = forest[label][SIZE]
    many = len(child_labels(forest, label)) + 1
    return is_tuple_of(value, many, lambda vector: is_tuple_of(vector, size, is_entry))


def check_rows(forest, table, has_form, row_from):
    """Raise InvalidTable if the table is not the one that `row_from` gives, as in `table_of`.

    `has_form(forest, label, row)` tells whether a row has the form that `row_from` needs of the rows of children.
    """
    if not isinstance(table, tuple) or len(table) != len(forest):
        raise InvalidTable(None)
    for label, row in enumerate(table):
        if not has_form(forest, label, row):
            raise InvalidTable(label)
    for label, row in enumerate(table):
        if row != row_from(label, table):
            raise InvalidTable(label)
