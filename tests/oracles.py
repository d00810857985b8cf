"""Slow answers, each found by trying everything or by following the words of the document step by step."""

import itertools
import math

from tests.samples import node_with


def start(forest):
    """Return a dict from the labels to the shown numbers."""
    return {label: node[1] for label, node in enumerate(forest)}


def after_removal(forest, shown, label):
    """Return the dict of the shown numbers of the present nodes after the removal of one of them."""
    after = {}
    for other, number in shown.items():
        if other == label:
            continue
        if forest[other][4] == label:
            number += forest[other][5]
        if forest[label][4] == other:
            number += forest[label][6]
        after[other] = number % forest[other][0]
    return after


def removals(forest, shown, exempt=None):
    """Yield pairs of a sequence of removals and the number that `exempt`, which may show any, showed at its turn."""
    yield (), None
    for label, number in shown.items():
        if label == exempt or number in forest[label][2]:
            for rest, at in removals(forest, after_removal(forest, shown, label), exempt):
                yield (label,) + rest, number if label == exempt else at


def all_runs(forest):
    """Return all runs of the forest, ascending."""
    return sorted(run for run, _ in removals(forest, start(forest)))


def weight(forest, labels):
    return sum(forest[label][3] for label in labels)


def meets(run, required, forbidden):
    return set(required) <= set(run) and not set(forbidden) & set(run)


def best_by_trying(forest, runs, required, forbidden):
    """Return the greatest weight and the smallest run that has it, or None."""
    found = [(-weight(forest, run), run) for run in runs if meets(run, required, forbidden)]
    if not found:
        return None
    lowest, run = min(found)
    return -lowest, run


def below(forest, label):
    """Return the children of the node."""
    return [child for child, node in enumerate(forest) if node[4] is not None and node[4] == label]


def branch(forest, label):
    """Return the subtree of the node."""
    return [label] + [other for child in below(forest, label) for other in branch(forest, child)]


def greatest(values):
    return max((value for value in values if value is not None), default=None)


def least(values):
    return min((value for value in values if value is not None), default=None)


def heaviest(forest, label, labels, required, forbidden, turned=0):
    """Return the greatest weights removable among `labels`: without the node, with it legally, and at each number."""
    shown = {other: forest[other][1] for other in labels}
    if label in shown:
        shown[label] = (shown[label] + turned) % forest[label][0]
    wanted = [other for other in labels if other in required]
    without, legal = [], []
    vector = [[] for _ in range(forest[label][0])]
    for sequence, at in removals(forest, shown, exempt=label):
        if not meets(sequence, wanted, forbidden):
            continue
        if at is None:
            without.append(weight(forest, sequence))
        else:
            vector[at].append(weight(forest, sequence))
            if at in forest[label][2]:
                legal.append(weight(forest, sequence))
    return greatest(without), greatest(legal), tuple(greatest(entry) for entry in vector)


def reach_row_by_trying(forest, label, required, forbidden):
    """Return the reach row by a search over all sequences of removals in the subtree."""
    stay, early, _ = heaviest(forest, label, branch(forest, label), required, forbidden)
    late = None
    if forest[label][4] is not None:
        _, late, _ = heaviest(forest, label, branch(forest, label), required, forbidden, forest[label][5])
    labels = [label]
    vectors = [heaviest(forest, label, labels, required, forbidden)[2]]
    for child in below(forest, label):
        labels = labels + branch(forest, child)
        vectors.append(heaviest(forest, label, labels, required, forbidden)[2])
    return stay, early, late, tuple(vectors)


def total(*parts):
    return None if None in parts else sum(parts)


def reach_row_by_words(forest, label, rows, required, forbidden):
    """Return the reach row that 5.6 and 5.7 give from the rows of the children."""
    size, shown, allowed, own, parent, down, _ = forest[label]
    vector = [None] * size
    if label not in forbidden:
        vector[shown] = own
    vectors = [tuple(vector)]
    for child in below(forest, label):
        stay, early, late, _ = rows[child]
        up = forest[child][6]
        vector = [
            greatest([total(vector[r], stay), total(vector[(r - up) % size], early), total(vector[r], late)])
            for r in range(size)
        ]
        vectors.append(tuple(vector))
    stay = total(0, *[greatest(rows[child][:2]) for child in below(forest, label)])
    if label in required:
        stay = None
    early = greatest(vector[r] for r in range(size) if r in allowed)
    late = greatest(vector[r] for r in range(size) if (r + down) % size in allowed)
    return stay, early, None if parent is None else late, tuple(vectors)


def trace_node(forest, table, label, case, cases):
    """Note the cases of the node and of its subtree as 5.10 says, in the dict `cases`."""
    cases[label] = case
    size, _, allowed, _, _, down, _ = forest[label]
    children = below(forest, label)
    if case == "stay":
        for child in children:
            trace_node(forest, table, child, free_case(table[child]), cases)
        return
    stay, early, late, vectors = table[label]
    if case == "early":
        r = min(k for k in range(size) if k in allowed and vectors[-1][k] == early)
    else:
        r = min(k for k in range(size) if (k + down) % size in allowed and vectors[-1][k] == late)
    for place in range(len(children) - 1, -1, -1):
        child = children[place]
        stay, early, late, _ = table[child]
        up = forest[child][6]
        wanted = vectors[place + 1][r]
        if stay is not None and total(vectors[place][r], stay) == wanted:
            trace_node(forest, table, child, "stay", cases)
        elif early is not None and total(vectors[place][(r - up) % size], early) == wanted:
            trace_node(forest, table, child, "early", cases)
            r = (r - up) % size
        else:
            trace_node(forest, table, child, "late", cases)


def free_case(row):
    stay, early, _, _ = row
    if stay is not None and (early is None or stay >= early):
        return "stay"
    return "early"


def traced_by_words(forest, table):
    """Return the traced run that 5.10 describes."""
    cases = {}
    for label, node in enumerate(forest):
        if node[4] is None:
            trace_node(forest, table, label, free_case(table[label]), cases)
    edges = []
    for child, node in enumerate(forest):
        if node[4] is not None and cases[node[4]] != "stay":
            edges += {"early": [(child, node[4])], "late": [(node[4], child)], "stay": []}[cases[child]]
    left = [label for label in sorted(cases) if cases[label] != "stay"]
    run = ()
    while left:
        first = min(label for label in left if not any(a in left for a, b in edges if b == label))
        left.remove(first)
        run += (first,)
    return run


def default_prices(forest):
    return tuple(tuple(int(number != node[1]) for number in range(node[0])) for node in forest)


def all_numbers(forest, labels):
    """Yield dicts that give each of these nodes a number, in every way."""
    for numbers in itertools.product(*[range(forest[label][0]) for label in labels]):
        yield dict(zip(labels, numbers))


def cheapest(forest, label, labels, prices, turned=0):
    """Return the least prices with which all of `labels` can be removed: legally, and with the node at each number."""
    legal = []
    vector = [[] for _ in range(forest[label][0])]
    for numbers in all_numbers(forest, labels):
        price = sum(prices[other][number] for other, number in numbers.items())
        shown = dict(numbers)
        shown[label] = (shown[label] + turned) % forest[label][0]
        for sequence, at in removals(forest, shown, exempt=label):
            if len(sequence) == len(labels):
                vector[at].append(price)
                if at in forest[label][2]:
                    legal.append(price)
    return least(legal), tuple(least(entry) for entry in vector)


def preparation_row_by_trying(forest, label, prices):
    """Return the preparation row by a search over all numbers and all orders of the subtree."""
    early, _ = cheapest(forest, label, branch(forest, label), prices)
    late = None
    if forest[label][4] is not None:
        late, _ = cheapest(forest, label, branch(forest, label), prices, forest[label][5])
    labels = [label]
    vectors = [cheapest(forest, label, labels, prices)[1]]
    for child in below(forest, label):
        labels = labels + branch(forest, child)
        vectors.append(cheapest(forest, label, labels, prices)[1])
    return early, late, tuple(vectors)


def preparation_row_by_words(forest, label, rows, prices):
    """Return the preparation row that 6.6 gives from the rows of the children."""
    size, _, allowed, _, parent, down, _ = forest[label]
    vector = prices[label]
    vectors = [vector]
    for child in below(forest, label):
        early, late, _ = rows[child]
        up = forest[child][6]
        vector = tuple(min(vector[(r - up) % size] + early, vector[r] + late) for r in range(size))
        vectors.append(vector)
    early = min(vector[r] for r in range(size) if r in allowed)
    late = min(vector[r] for r in range(size) if (r + down) % size in allowed)
    return early, None if parent is None else late, tuple(vectors)


def can_be_cleared(forest):
    return any(len(run) == len(forest) for run, _ in removals(forest, start(forest)))


def preparation_by_trying(forest, prices):
    """Return the least price and the smallest numbers that cost it, by trying all numbers."""
    found = []
    for numbers in all_numbers(forest, range(len(forest))):
        nodes = tuple(node_with(node, shown=numbers[label]) for label, node in enumerate(forest))
        if can_be_cleared(nodes):
            price = sum(prices[label][number] for label, number in numbers.items())
            found.append((price, tuple(numbers.values())))
    return min(found)


def clearing_runs(forest):
    """Return all clearing runs, ascending."""
    return [run for run in all_runs(forest) if len(run) == len(forest)]


def counted(forest, label, labels, turned=0):
    """Count the orders of `labels` by the position of the node: the legal ones, and those at each of its numbers."""
    shown = {other: forest[other][1] for other in labels}
    shown[label] = (shown[label] + turned) % forest[label][0]
    legal = [0] * len(labels)
    stage = [[0] * len(labels) for _ in range(forest[label][0])]
    for sequence, at in removals(forest, shown, exempt=label):
        if len(sequence) == len(labels):
            stage[at][sequence.index(label)] += 1
            if at in forest[label][2]:
                legal[sequence.index(label)] += 1
    return tuple(legal), tuple(tuple(vector) for vector in stage)


def count_row_by_trying(forest, label):
    """Return the count row by a search over all sequences of the subtree."""
    early, _ = counted(forest, label, branch(forest, label))
    late = None
    if forest[label][4] is not None:
        late, _ = counted(forest, label, branch(forest, label), forest[label][5])
    labels = [label]
    stages = [counted(forest, label, labels)[1]]
    for child in below(forest, label):
        labels = labels + branch(forest, child)
        stages.append(counted(forest, label, labels)[1])
    return early, late, tuple(stages)


def next_stage(stage, up, early, late):
    """Return the stage that 7.6 gives from the previous stage and the row of a child."""
    size, a, b = len(stage), len(stage[0]), len(early)
    new = [[0] * (a + b) for _ in range(size)]
    for r in range(size):
        for k in range(a):
            for t in range(b + 1):
                w = stage[r][k] * math.comb(k + t, t) * math.comb(a - 1 - k + b - t, b - t)
                new[(r + up) % size][k + t] += w * sum(early[:t])
                new[r][k + t] += w * sum(late[t:])
    return tuple(tuple(vector) for vector in new)


def count_row_by_words(forest, label, rows):
    """Return the count row that 7.5 to 7.7 give from the rows of the children."""
    size, shown, allowed, _, parent, down, _ = forest[label]
    stage = tuple((1,) if r == shown else (0,) for r in range(size))
    stages = [stage]
    for child in below(forest, label):
        stage = next_stage(stage, forest[child][6], rows[child][0], rows[child][1])
        stages.append(stage)
    early = [stage[r] for r in range(size) if r in allowed]
    late = [stage[r] for r in range(size) if (r + down) % size in allowed]
    early, late = [tuple(sum(entries) for entries in zip(*vectors)) for vectors in (early, late)]
    return early, None if parent is None else late, tuple(stages)


def count_by_words(forest, table):
    """Return the number of clearing runs that 7.8 gives from the count table."""
    found = math.factorial(len(forest))
    for label, node in enumerate(forest):
        if node[4] is None:
            found = found * sum(table[label][0]) // math.factorial(len(branch(forest, label)))
    return found


def downward_count(forest):
    """Return in how many orders every node comes after its parent."""
    found = math.factorial(len(forest))
    for label in range(len(forest)):
        found //= len(branch(forest, label))
    return found
