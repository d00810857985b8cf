"""Edits: small changes of a forest, which labels they affect, and how they are taken back."""

from dialforest.errors import InvalidEdit, NotChild, NotRoot, WouldLoop
from dialforest.forests import ALLOWED, MOST_SIZE, MOST_WEIGHT, PARENT, SIZE, UP, WEIGHT
from dialforest.forests import is_allowed, is_between, path_labels, validate

# For each kind of edit: its length, and the place in a node of the first field that it sets.
KINDS = {
    "shown": (3, 1),
    "allowed": (3, 2),
    "weight": (3, 3),
    "amounts": (4, 5),
    "link": (5, 4),
    "cut": (2, 4),
}
# The place of the first item of an edit that is the value of a field, behind the word and the label.
FIRST = 2


def has_form(edit):
    """Return whether the value is a tuple that begins with the word of a kind and has the length of this kind."""
    if not isinstance(edit, tuple) or len(edit) == 0 or not isinstance(edit[0], str) or edit[0] not in KINDS:
        return False
    length, _ = KINDS[edit[0]]
    return len(edit) == length


def is_valid(value, field, size, many):
    """Return whether an edit may set this field of a node of this size, among `many` nodes, to the value."""
    if field == ALLOWED:
        return is_allowed(value, size)
    if field == WEIGHT:
        return is_between(value, -MOST_WEIGHT, MOST_WEIGHT)
    if field == PARENT:
        return is_between(value, 0, many - 1)
    # The size of the parent bounds `up`, but that is a matter of the edge.
    return is_between(value, 0, MOST_SIZE - 1 if field == UP else size - 1)


def wrong_item(forest, edit):
    """Return the index of the first item that is not valid by itself, or None."""
    label = edit[1]
    if not is_between(label, 0, len(forest) - 1):
        return 1
    _, first = KINDS[edit[0]]
    for place, value in enumerate(edit[FIRST:]):
        if not is_valid(value, first + place, forest[label][SIZE], len(forest)):
            return FIRST + place
    return None


def check_edge(forest, edit):
    """Raise an error if an edit whose items are valid by themselves does not fit the edges of the forest."""
    word = edit[0]
    label = edit[1]
    parent = forest[label][PARENT]
    if word == "link":
        if parent is not None:
            raise NotRoot(label)
        parent = edit[FIRST]
        if label in path_labels(forest, parent):
            raise WouldLoop(parent)
    elif word in ("amounts", "cut") and parent is None:
        raise NotChild(label)
    if word in ("amounts", "link") and edit[-1] >= forest[parent][SIZE]:
        raise InvalidEdit((len(edit) - 1,))


def check_edit(forest, edit):
    """Raise InvalidForest, or the first error of the edit, if there is one."""
    validate(forest)
    if not has_form(edit):
        raise InvalidEdit(())
    place = wrong_item(forest, edit)
    if place is not None:
        raise InvalidEdit((place,))
    check_edge(forest, edit)


def edited(forest, edit):
    """Return the new forest, without any check."""
    label = edit[1]
    node = forest[label]
    _, first = KINDS[edit[0]]
    values = (None, 0, 0) if edit[0] == "cut" else edit[FIRST:]
    new = node[:first] + values + node[first + len(values):]
    return forest[:label] + (new,) + forest[label + 1:]


def affected_labels(forest, edit):
    """Return the affected labels, without any check."""
    if edit[0] == "link":
        return (edit[1],) + path_labels(forest, edit[FIRST])
    # A node that is cut stands on the path that it had before.
    return path_labels(forest, edit[1])


def apply_edit(forest, edit):
    """Return the new forest."""
    check_edit(forest, edit)
    return edited(forest, edit)


def affected(forest, edit):
    """Return the labels whose rows can change, in the order of their path."""
    check_edit(forest, edit)
    return affected_labels(forest, edit)


def inverse(forest, edit):
    """Return the edit that turns the new forest into this one again."""
    check_edit(forest, edit)
    word = edit[0]
    label = edit[1]
    node = forest[label]
    if word == "link":
        return ("cut", label)
    if word == "cut":
        return ("link", label) + node[PARENT:]
    length, first = KINDS[word]
    return (word, label) + node[first:first + length - FIRST]
