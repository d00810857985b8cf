"""Removal: which tuples of labels are runs, what they leave, and a play that removes one node at a time."""

from dialforest.errors import InvalidRun, NothingRemains, NothingToUndo, NotRemovable
from dialforest.forests import ALLOWED, DOWN, PARENT, SHOWN, SIZE, UP, WEIGHT
from dialforest.forests import child_labels, is_between, require_label, validate


def first_numbers(forest):
    """Return a list with the number that each node shows before anything is removed."""
    return [node[SHOWN] for node in forest]


def turned_by(forest, label):
    """Return pairs of a neighbour and the amount by which removing the node turns it, in order of labels."""
    pairs = [(child, forest[child][DOWN]) for child in child_labels(forest, label)]
    parent = forest[label][PARENT]
    if parent is not None:
        pairs.append((parent, forest[label][UP]))
    return sorted(pairs)


def is_removable(forest, shown, label):
    """Return whether the node is present and shows an allowed number; removed nodes show None."""
    return shown[label] in forest[label][ALLOWED]


def take_away(forest, shown, label):
    """Remove the node: change `shown` to the numbers afterwards."""
    shown[label] = None
    for other, amount in turned_by(forest, label):
        if shown[other] is not None:
            shown[other] = (shown[other] + amount) % forest[other][SIZE]


def numbers_after(forest, run):
    """Return a list with the number that each node shows after the run, None for removed nodes."""
    shown = first_numbers(forest)
    for label in run:
        take_away(forest, shown, label)
    return shown


def wrong_position(forest, run):
    """Return the position of the first item that cannot be removed at its turn, or None if the value is a run."""
    if not isinstance(run, tuple):
        return ()
    shown = first_numbers(forest)
    for place, label in enumerate(run):
        if not is_between(label, 0, len(forest) - 1) or not is_removable(forest, shown, label):
            return (place,)
        take_away(forest, shown, label)
    return None


def removable_labels(forest, shown):
    """Return the labels that can be removed while the nodes show these numbers, ascending."""
    return tuple([label for label in range(len(forest)) if is_removable(forest, shown, label)])


def weight_of(forest, labels):
    """Return the sum of the weights of these nodes."""
    return sum([forest[label][WEIGHT] for label in labels])


def left_node(forest, shown, label, labels):
    """Return the remaining node, renumbered to its place in `labels`, the tuple of all remaining labels."""
    size, _, allowed, weight, parent, down, up = forest[label]
    if parent not in labels:
        return (size, shown[label], allowed, weight, None, 0, 0)
    return (size, shown[label], allowed, weight, labels.index(parent), down, up)


def left_nodes(forest, shown):
    """Return the tuple of the remaining nodes, renumbered, and the tuple of their old labels; both may be empty."""
    labels = tuple([label for label in range(len(forest)) if shown[label] is not None])
    return tuple([left_node(forest, shown, label, labels) for label in labels]), labels


def check_run(forest, run):
    """Raise InvalidRun if the value is not a run."""
    validate(forest)
    position = wrong_position(forest, run)
    if position is not None:
        raise InvalidRun(position)


def is_run(forest, value):
    """Return whether `value` is a run."""
    validate(forest)
    return wrong_position(forest, value) is None


def shown_after(forest, run):
    """Return a tuple with the number that each node shows after the run, None for removed nodes."""
    check_run(forest, run)
    return tuple(numbers_after(forest, run))


def removable(forest, *, run=()):
    """Return the labels that can be removed after the run, ascending."""
    check_run(forest, run)
    return removable_labels(forest, numbers_after(forest, run))


def run_weight(forest, run):
    """Return the weight of the run."""
    check_run(forest, run)
    return weight_of(forest, run)


def remaining(forest, run):
    """Return the forest of the nodes that remain after the run, renumbered, and the tuple of their old labels."""
    check_run(forest, run)
    if len(run) == len(forest):
        raise NothingRemains(len(run))
    return left_nodes(forest, numbers_after(forest, run))


class Play:
    """A forest and a run that grows and shrinks at its end."""

    def __init__(self, forest):
        validate(forest)
        self._forest = forest
        self._run = []
        self._shown = first_numbers(forest)

    def __eq__(self, other):
        return isinstance(other, Play) and self._forest == other._forest and self._run == other._run

    def __len__(self):
        return len(self._run)

    def remove(self, label):
        """Remove the node; return the numbers that its present neighbours show now."""
        require_label(self._forest, label)
        if not is_removable(self._forest, self._shown, label):
            raise NotRemovable(label)
        take_away(self._forest, self._shown, label)
        self._run.append(label)
        near = [other for other, _ in turned_by(self._forest, label)]
        return {other: self._shown[other] for other in near if self._shown[other] is not None}

    def undo(self):
        """Take back the last removal and return its label."""
        if len(self._run) == 0:
            raise NothingToUndo("remove")
        label = self._run.pop()
        self._shown = numbers_after(self._forest, self._run)
        return label

    def run(self):
        """Return the run so far."""
        return tuple(self._run)

    def shown(self):
        """Return a tuple with the number that each node shows now, None for removed nodes."""
        return tuple(self._shown)

    def removable(self):
        """Return the labels that can be removed now, ascending."""
        return removable_labels(self._forest, self._shown)

    def weight(self):
        """Return the weight of the run."""
        return weight_of(self._forest, self._run)

    def copy(self):
        """Return an independent play with the same forest and run."""
        play = Play(self._forest)
        play._run = list(self._run)
        play._shown = list(self._shown)
        return play
