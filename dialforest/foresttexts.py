"""The text of a forest: one line of seven fields for each node."""

from dialforest.errors import InvalidText
from dialforest.forests import FIELDS, MOST_NODES, MOST_WEIGHT, is_forest, validate, wrong_field

MOST_CHARACTERS = 20000
NO_PARENT = "-"


def format_node(node):
    """Return the line of the node."""
    size, shown, allowed, weight, parent, down, up = node
    numbers = ",".join([str(number) for number in allowed])
    above = NO_PARENT if parent is None else str(parent)
    return f"{size} {shown} {numbers} {weight} {above} {down} {up}"


def format_forest(forest):
    """Return the text of the forest."""
    validate(forest)
    return "\n".join([format_node(node) for node in forest])


def is_integer_text(text):
    """Return whether `text` is an integer in decimal, without leading zeros, `+` or `-0`."""
    digits = text.removeprefix("-")
    if not digits.isdecimal():
        return False
    return text == "0" or not digits.startswith("0")


def read_integer(text):
    """Return the integer; if the text is none, or is too long for any field, the text itself, which no field admits."""
    # Python refuses to convert very many digits, and so many are outside of every range anyway.
    if len(text) > len(str(-MOST_WEIGHT)) or not is_integer_text(text):
        return text
    return int(text)


def read_allowed(text):
    """Return the allowed numbers, each as `read_integer` returns it."""
    return tuple([read_integer(part) for part in text.split(",")])


def read_parent(text):
    """Return None for a root, otherwise the parent as `read_integer` returns it."""
    return None if text == NO_PARENT else read_integer(text)


def read_node(line, label, many):
    """Return the node `label` among `many` nodes, or None if the line is not the text of a node by itself."""
    fields = line.split(" ")
    if len(fields) != FIELDS:
        return None
    size, shown, allowed, weight, parent, down, up = fields
    node = (
        read_integer(size),
        read_integer(shown),
        read_allowed(allowed),
        read_integer(weight),
        read_parent(parent),
        read_integer(down),
        read_integer(up),
    )
    return node if wrong_field(node, label, many) is None else None


def parse_forest(text):
    """Return the forest whose text this is; raise InvalidText if there is none."""
    if not isinstance(text, str) or len(text) > MOST_CHARACTERS:
        raise InvalidText(0)
    lines = text.split("\n")
    nodes = []
    for label, line in enumerate(lines):
        node = read_node(line, label, len(lines))
        if node is None:
            raise InvalidText(label + 1)
        nodes.append(node)
    if len(nodes) > MOST_NODES:
        raise InvalidText(MOST_NODES + 1)
    forest = tuple(nodes)
    if not is_forest(forest):
        raise InvalidText(len(nodes) + 1)
    return forest
