"""Tables with one thing wrong, and a slow check of tables by the words of the document."""

from tests.oracles import below
from tests.samples import large_integers, no_integers


def paths(value):
    """Yield the paths to the value itself and to everything in it."""
    yield ()
    if isinstance(value, tuple):
        for k, item in enumerate(value):
            for path in paths(item):
                yield (k,) + path


def at(value, path):
    """Return what the path leads to."""
    for k in path:
        value = value[k]
    return value


def replaced(value, path, new):
    """Return the value with something else at the end of the path."""
    if not path:
        return new
    k = path[0]
    return value[:k] + (replaced(value[k], path[1:], new),) + value[k + 1:]


def others(value):
    """Return things that may stand where the value stood."""
    if isinstance(value, tuple):
        return [
            list(value), value[1:], value[:-1], value + value[-1:], value + (None,), value + (0,), value[::-1],
            (), (value,), None, 0, True, "", object(),
        ]
    near = [] if value is None else [value + 1, value - 1, -value, bool(value), str(value), (value,), [value]]
    return near + [None, True, False, 0, 1, -1, 10 ** 3999, "", "0", (), [], {}, object()]


def altered(table):
    """Yield tables in which one thing was replaced, most of them wrong."""
    for path in paths(table):
        for new in others(at(table, path)):
            yield replaced(table, path, new)
    for k in range(len(table)):
        for m in range(k):
            rows = list(table)
            rows[k], rows[m] = rows[m], rows[k]
            yield tuple(rows)


def no_tables():
    """Return values of many kinds that are no tuples of one or more items."""
    return [value for value in no_integers() if not isinstance(value, tuple)] + large_integers() + [(), [], 0, 1, ""]


def no_rows():
    """Return values of many kinds that are no rows."""
    return no_integers() + large_integers() + [(), [], 0, 1, "", (0, 0, 0), (0, 0, 0, 0), (None,) * 4, (0, None, ())]


def is_entry(value, optional):
    return type(value) is int or (optional and value is None)


def are_vectors(value, forest, label, optional):
    """Return whether the value is a tuple of vectors of the node, whose entries may be None if `optional`."""
    if type(value) is not tuple or len(value) != len(below(forest, label)) + 1:
        return False
    for vector in value:
        if type(vector) is not tuple or len(vector) != forest[label][0]:
            return False
        if not all(is_entry(entry, optional) for entry in vector):
            return False
    return True


def wrong_label(forest, table, has_form, row_from):
    """Return the label that InvalidTable carries in a tuple, or () if the table is right."""
    if type(table) is not tuple or len(table) != len(forest):
        return (None,)
    for label in range(len(forest)):
        if not has_form(forest, label, table[label]):
            return (label,)
    for label in range(len(forest)):
        if table[label] != row_from(forest, label, table):
            return (label,)
    return ()
