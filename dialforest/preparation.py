"""Preparation: the cheapest numbers to start with such that some run clears the forest."""

from dialforest.errors import InvalidNumbers, InvalidPrices
from dialforest.forests import ALLOWED, MOST_SIZE, PARENT, SHOWN, SIZE, UP
from dialforest.forests import child_labels, is_between, validate
from dialforest.rows import are_vectors, check_rows, is_integer, is_tuple_of, late_remainders, table_of

MOST_PRICE = 10 ** 12

# The places in a preparation row.
EARLY = 0
LATE = 1
VECTORS = 2
ROW = 3


def is_number(value, size):
    """Return whether a dial of this size can show the value."""
    return is_between(value, 0, size - 1)


def is_price(value):
    """Return whether the value can be the price of one number."""
    return is_between(value, 0, MOST_PRICE)


def are_prices(value, size):
    """Return whether the value can be the prices of a dial of this size."""
    return is_tuple_of(value, size, is_price)


def wrong_item(forest, value, is_item):
    """Return the path to what keeps the value from having one right item for each node, or None."""
    if not isinstance(value, tuple) or len(value) != len(forest):
        return ()
    for label, item in enumerate(value):
        if not is_item(item, forest[label][SIZE]):
            return (label,)
    return None


def with_number(node, number):
    """Return the node that shows this number."""
    size, _, allowed, weight, parent, down, up = node
    return (size, number, allowed, weight, parent, down, up)


def prepared(forest, numbers):
    """Return the forest with these shown numbers."""
    validate(forest)
    path = wrong_item(forest, numbers, is_number)
    if path is not None:
        raise InvalidNumbers(path)
    return tuple([with_number(node, number) for node, number in zip(forest, numbers)])


def default_prices(forest):
    """Return the prices that count how many dials are turned."""
    return tuple([tuple([0 if number == node[SHOWN] else 1 for number in range(node[SIZE])]) for node in forest])


def known_prices(forest, prices):
    """Return the prices, the default ones for None; raise InvalidForest, then InvalidPrices."""
    validate(forest)
    if prices is None:
        return default_prices(forest)
    path = wrong_item(forest, prices, are_prices)
    if path is not None:
        raise InvalidPrices(path)
    return prices


def with_child(vector, up, row):
    """Return the vector that takes in a child with this amount and row."""
    size = len(vector)
    return tuple([
        min(vector[(remainder - up) % size] + row[EARLY], vector[remainder] + row[LATE])
        for remainder in range(size)
    ])


def preparation_row(forest, label, rows, prices):
    """Return the row of the node that these prices and the rows of its children give."""
    node = forest[label]
    vectors = [prices[label]]
    for child in child_labels(forest, label):
        vectors.append(with_child(vectors[-1], forest[child][UP], rows[child]))
    last = vectors[-1]
    early = min([last[remainder] for remainder in node[ALLOWED]])
    late = None if node[PARENT] is None else min([last[remainder] for remainder in late_remainders(node)])
    return (early, late, tuple(vectors))


def table_for(forest, prices):
    """Return the tuple of the preparation rows for these prices, without any check."""
    return table_of(forest, lambda label, rows: preparation_row(forest, label, rows, prices))


def price_shown(forest, table):
    """Return the least price that the rows of the roots show."""
    return sum([row[EARLY] for node, row in zip(forest, table) if node[PARENT] is None])


def preparation_table(forest, *, prices=None):
    """Return the tuple of the preparation rows."""
    return table_for(forest, known_prices(forest, prices))


def least_price(forest, *, prices=None):
    """Return the price of the least preparation."""
    return price_shown(forest, preparation_table(forest, prices=prices))


def place_values(many):
    """Return what 1 is worth in a numeral to the base MOST_SIZE, from place number `many` down to place number 0."""
    found = [1]
    for _ in range(many):
        found.append(found[-1] * MOST_SIZE)
    return list(reversed(found))


def least_preparation(forest, *, prices=None):
    """Return the cheapest numbers with which some run clears the forest, the smallest tuple among several."""
    known = known_prices(forest, prices)
    # Written one after the other, the numbers are the digits of a numeral that grows with the tuple. As long as it
    # counts less than one unit of price, it decides between equally cheap numbers only.
    unit, *values = place_values(len(forest))
    ranked = [
        tuple([price * unit + number * value for number, price in enumerate(row)])
        for row, value in zip(known, values)
    ]
    least = price_shown(forest, table_for(forest, ranked))
    return tuple([least // value % MOST_SIZE for value in values])


def has_form(forest, label, row):
    """Return whether the value has the form of the preparation row of the node."""
    if not isinstance(row, tuple) or len(row) != ROW or not is_integer(row[EARLY]):
        return False
    if forest[label][PARENT] is None and row[LATE] is not None:
        return False
    if forest[label][PARENT] is not None and not is_integer(row[LATE]):
        return False
    return are_vectors(row[VECTORS], forest, label, is_integer)


def check_preparation_table(forest, table, *, prices=None):
    """Return the least price that the table shows; raise InvalidTable if it is not the preparation table."""
    known = known_prices(forest, prices)
    check_rows(forest, table, has_form, lambda label, rows: preparation_row(forest, label, rows, known))
    return price_shown(forest, table)
