"""Sessions: a forest that is edited step by step, while its three tables are kept correct."""

from dialforest.counts import count_row, runs_shown
from dialforest.edits import affected_labels, check_edit, edited
from dialforest.errors import NothingToUndo
from dialforest.forests import validate
from dialforest.foresttexts import format_forest
from dialforest.preparation import default_prices, preparation_row, price_shown
from dialforest.reach import reach_row, weight_shown
from dialforest.rows import upward

# The places of the tables among the tables of a session.
REACH = 0
PREPARATION = 1
COUNTS = 2
TABLES = 3


def with_rows(table, labels, row_from):
    """Return the table with new rows for these labels, in this order; `row_from` is that of `rows.table_of`."""
    rows = list(table)
    for label in labels:
        rows[label] = row_from(label, rows)
    return tuple(rows)


def with_new_rows(forest, tables, labels):
    """Return the three tables with new rows for these labels, among which children stand before their parents."""
    prices = default_prices(forest)
    return (
        with_rows(tables[REACH], labels, lambda label, rows: reach_row(forest, label, rows, (), ())),
        with_rows(tables[PREPARATION], labels, lambda label, rows: preparation_row(forest, label, rows, prices)),
        with_rows(tables[COUNTS], labels, lambda label, rows: count_row(forest, label, rows)),
    )


class Session:
    """A forest with its tables, and the edits that led to it."""

    def __init__(self, forest):
        validate(forest)
        no_rows = (None,) * len(forest)
        self._forest = forest
        self._tables = with_new_rows(forest, (no_rows,) * TABLES, upward(forest))
        # The edits, each with the forest and the tables before it.
        self._past = []
        self._work = 0

    def __eq__(self, other):
        return isinstance(other, Session) and self._forest == other._forest

    def __len__(self):
        return len(self._forest)

    def __str__(self):
        return str(format_forest(self._forest))

    def apply(self, edit):
        """Perform the edit and return the affected labels."""
        check_edit(self._forest, edit)
        labels = affected_labels(self._forest, edit)
        forest = edited(self._forest, edit)
        tables = with_new_rows(forest, self._tables, labels)
        self._past.append((edit, self._forest, self._tables))
        self._forest = forest
        self._tables = tables
        self._work = self._work + len(labels)
        return labels

    def undo(self):
        """Take back the last edit and return it."""
        if len(self._past) == 0:
            raise NothingToUndo("apply")
        edit, self._forest, self._tables = self._past.pop()
        return edit

    def forest(self):
        """Return the forest."""
        return self._forest

    def reach_table(self):
        """Return the reach table for the empty selection."""
        return self._tables[REACH]

    def preparation_table(self):
        """Return the preparation table for the default prices."""
        return self._tables[PREPARATION]

    def count_table(self):
        """Return the count table."""
        return self._tables[COUNTS]

    def greatest_weight(self):
        """Return the greatest weight that the reach table shows."""
        return weight_shown(self._forest, self._tables[REACH])

    def least_price(self):
        """Return the least price that the preparation table shows."""
        return price_shown(self._forest, self._tables[PREPARATION])

    def count_runs(self):
        """Return the number of clearing runs that the count table shows."""
        return runs_shown(self._forest, self._tables[COUNTS])

    def work(self):
        """Return the number of affected labels of all edits that were applied."""
        return self._work

    def edits(self):
        """Return a tuple of the edits that were applied and not undone, in order."""
        return tuple([past[0] for past in self._past])

    def copy(self):
        """Return an independent session with the same forest, tables, edits and work."""
        session = Session(self._forest)
        session._past = list(self._past)
        session._work = self._work
        return session
