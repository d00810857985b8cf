"""Ranks: the clearing runs of a small forest in the order of tuples."""

from dialforest.counts import runs_shown, table_for
from dialforest.errors import InvalidRank, NotClearing, TooLarge
from dialforest.forests import is_between, validate
from dialforest.runs import check_run, first_numbers, left_nodes, removable_labels, take_away

MOST_RANKED = 16


def require_ranked(forest):
    """Raise InvalidForest, then TooLarge, if the functions on ranks do not take the value."""
    validate(forest)
    if len(forest) > MOST_RANKED:
        raise TooLarge(MOST_RANKED)


def orders_left(forest, shown):
    """Return in how many orders all nodes can be removed that are present and show these numbers."""
    nodes, _ = left_nodes(forest, shown)
    return runs_shown(nodes, table_for(nodes))


def orders_behind(forest, shown, label):
    """Return in how many orders the other nodes can be removed when the node goes first."""
    after = list(shown)
    take_away(forest, after, label)
    return orders_left(forest, after)


def first_of_rank(forest, shown, rank):
    """Return the first label of the order with this rank, and its rank among the orders that begin with this label."""
    left = rank
    for label in removable_labels(forest, shown):
        many = orders_behind(forest, shown, label)
        if left < many:
            return label, left
        left = left - many
    return None, left


def run_with(forest, rank):
    """Return the clearing run with this rank, without any check."""
    shown = first_numbers(forest)
    left = rank
    run = []
    for _ in forest:
        label, left = first_of_rank(forest, shown, left)
        take_away(forest, shown, label)
        run.append(label)
    return tuple(run)


def run_at(forest, rank):
    """Return the clearing run with this rank."""
    require_ranked(forest)
    if not is_between(rank, 0, orders_left(forest, first_numbers(forest)) - 1):
        raise InvalidRank(rank)
    return run_with(forest, rank)


def rank_of(forest, run):
    """Return the number of clearing runs that are smaller than this one."""
    require_ranked(forest)
    check_run(forest, run)
    if len(run) != len(forest):
        raise NotClearing(len(run))
    shown = first_numbers(forest)
    rank = 0
    for label in run:
        smaller = [other for other in removable_labels(forest, shown) if other < label]
        rank = rank + sum([orders_behind(forest, shown, other) for other in smaller])
        take_away(forest, shown, label)
    return rank


def next_run(forest, run):
    """Return the smallest clearing run that is greater than this one, or None if there is none."""
    rank = rank_of(forest, run) + 1
    if rank == orders_left(forest, first_numbers(forest)):
        return None
    return run_with(forest, rank)
