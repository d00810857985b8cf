"""Edits to try, right and wrong ones, and what they do by the words of the document."""

from tests.oracles import branch
from tests.samples import node_with

LENGTHS = {"shown": 3, "allowed": 3, "weight": 3, "amounts": 4, "link": 5, "cut": 2}


def is_between(value, least, most):
    return type(value) is int and least <= value <= most


def is_allowed(value, size):
    if type(value) is not tuple or not value or not all(is_between(number, 0, size - 1) for number in value):
        return False
    return list(value) == sorted(set(value))


def wrong_item(forest, edit):
    """Return the index that step 2 of 11.2 gives, or None."""
    many = len(forest)
    word, label, *items = edit
    if not is_between(label, 0, many - 1):
        return 1
    size = forest[label][0]
    tests = {
        "shown": [lambda value: is_between(value, 0, size - 1)],
        "allowed": [lambda value: is_allowed(value, size)],
        "weight": [lambda value: is_between(value, -10 ** 12, 10 ** 12)],
        "amounts": [lambda value: is_between(value, 0, size - 1), lambda value: is_between(value, 0, 11)],
        "link": [
            lambda value: is_between(value, 0, many - 1),
            lambda value: is_between(value, 0, size - 1),
            lambda value: is_between(value, 0, 11),
        ],
        "cut": [],
    }[word]
    for k, (test, value) in enumerate(zip(tests, items)):
        if not test(value):
            return k + 2
    return None


def error_by_words(forest, edit):
    """Return the name of the error that 11.2 gives and its field, or None."""
    if type(edit) is not tuple or not edit or type(edit[0]) is not str or len(edit) != LENGTHS.get(edit[0]):
        return "InvalidEdit", ()
    k = wrong_item(forest, edit)
    if k is not None:
        return "InvalidEdit", (k,)
    word, label = edit[:2]
    parent = forest[label][4]
    if word == "link" and parent is not None:
        return "NotRoot", label
    if word in ("amounts", "cut") and parent is None:
        return "NotChild", label
    if word == "link" and edit[2] in branch(forest, label):
        return "WouldLoop", edit[2]
    if word == "amounts" and edit[3] >= forest[parent][0]:
        return "InvalidEdit", (3,)
    if word == "link" and edit[4] >= forest[edit[2]][0]:
        return "InvalidEdit", (4,)
    return None


def edited_by_words(forest, edit):
    """Return the new forest that 11.1 describes."""
    word, label, *items = edit
    names = {
        "shown": ["shown"], "allowed": ["allowed"], "weight": ["weight"], "amounts": ["down", "up"],
        "link": ["parent", "down", "up"], "cut": ["parent", "down", "up"],
    }[word]
    fields = dict(zip(names, items or [None, 0, 0]))
    return tuple(node_with(node, **fields) if k == label else node for k, node in enumerate(forest))


def path_by_words(forest, label):
    path = []
    while label is not None:
        path.append(label)
        label = forest[label][4]
    return tuple(path)


def affected_by_words(forest, edit):
    """Return the labels that 11.3 lists."""
    word, label = edit[:2]
    if word == "link":
        return path_by_words(edited_by_words(forest, edit), label)
    if word == "cut":
        return (label,) + path_by_words(forest, forest[label][4])
    return path_by_words(forest, label)


def random_edit(rng, forest, word):
    """Return an edit of this kind, or None if the forest has no node for it."""
    wanted = {"link": [True], "amounts": [False], "cut": [False]}.get(word, [True, False])
    labels = [label for label, node in enumerate(forest) if (node[4] is None) in wanted]
    if not labels:
        return None
    label = rng.choice(labels)
    size = forest[label][0]
    parent = forest[label][4]
    if word == "link":
        below = set(branch(forest, label))
        others = [other for other in range(len(forest)) if other not in below]
        if not others:
            return None
        parent = rng.choice(others)
    most = 0 if parent is None else forest[parent][0] - 1
    return {
        "shown": (word, label, rng.randrange(size)),
        "allowed": (word, label, tuple(sorted(rng.sample(range(size), rng.randint(1, size))))),
        "weight": (word, label, rng.choice([-10 ** 12, 10 ** 12, rng.randint(-3, 3)])),
        "amounts": (word, label, rng.randrange(size), rng.randint(0, most)),
        "link": (word, label, parent, rng.randrange(size), rng.randint(0, most)),
        "cut": (word, label),
    }[word]


def random_edits(rng, forest, times):
    """Yield edits of all kinds, each right for the forest that the ones before it give."""
    for _ in range(times):
        edit = random_edit(rng, forest, rng.choice(list(LENGTHS)))
        if edit is not None:
            yield edit
            forest = edited_by_words(forest, edit)


def edits_of_all_kinds(rng, forest):
    """Return an edit of each kind for which the forest has a node."""
    found = [random_edit(rng, forest, word) for word in LENGTHS]
    return [edit for edit in found if edit is not None]
