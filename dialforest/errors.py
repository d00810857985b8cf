"""The errors of the package: three bases, and one class for each kind of failure."""


class DialError(ValueError):
    """The base of the errors about a value that is not what the document asks for."""


class DialStateError(RuntimeError):
    """The base of the errors about a valid value that does not fit the present forest."""


class DialLookupError(LookupError):
    """The base of the errors about something that is not there."""


class InvalidForest(DialError):
    """The value is not a forest; `path` leads to the first violation."""

    def __init__(self, path):
        self.path = path


class InvalidLabel(DialError):
    """The value is not a label of the forest."""

    def __init__(self, label):
        self.label = label


class InvalidRun(DialError):
    """The value is not a run; `position` leads to the first item that cannot be removed."""

    def __init__(self, position):
        self.position = position


class InvalidSelection(DialError):
    """The labels are not a selection; `name` tells which of the two tuples is wrong."""

    def __init__(self, name):
        self.name = name


class InvalidNumbers(DialError):
    """The value is not one number for each dial; `path` leads to the first wrong item."""

    def __init__(self, path):
        self.path = path


class InvalidPrices(DialError):
    """The value is not a price for each number; `path` leads to the first wrong item."""

    def __init__(self, path):
        self.path = path


class InvalidTable(DialError):
    """The value is not the table; `label` is that of the first wrong row."""

    def __init__(self, label):
        self.label = label


class InvalidOrder(DialError):
    """The value does not contain every label once."""

    def __init__(self, order):
        self.order = order


class InvalidText(DialError):
    """The value is not the text of a forest; `line` is the first wrong line."""

    def __init__(self, line):
        self.line = line


class TooLarge(DialError):
    """The forest has more nodes than `limit`."""

    def __init__(self, limit):
        self.limit = limit


class InvalidRank(DialError):
    """The value is not the rank of a clearing run."""

    def __init__(self, rank):
        self.rank = rank


class InvalidEdit(DialError):
    """The value is not an edit of the forest; `path` leads to the first wrong item."""

    def __init__(self, path):
        self.path = path


class NotRemovable(DialStateError):
    """The node cannot be removed now."""

    def __init__(self, label):
        self.label = label


class NothingRemains(DialStateError):
    """The run, of this length, clears the forest."""

    def __init__(self, length):
        self.length = length


class Unreachable(DialStateError):
    """No run does what was asked for."""

    def __init__(self, reason):
        self.reason = reason


class NotRoot(DialStateError):
    """The node has a parent."""

    def __init__(self, label):
        self.label = label


class NotChild(DialStateError):
    """The node is a root."""

    def __init__(self, label):
        self.label = label


class WouldLoop(DialStateError):
    """The new parent, the node `label`, is in the subtree of the node."""

    def __init__(self, label):
        self.label = label


class NotClearing(DialStateError):
    """The run, of this length, does not clear the forest."""

    def __init__(self, length):
        self.length = length


class NothingToUndo(DialLookupError):
    """There is no action of this name to take back."""

    def __init__(self, action):
        self.action = action
