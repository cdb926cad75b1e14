"""Sorting of rows by orders."""


def sorted_by(rows, entries):
    """The list of the rows, sorted stably by entries (position in a row, direction)."""
    found = list(rows)
    # Each pass is stable, so the entry that decides first is taken last.
    for at, direction in reversed(entries):
        if direction == "down":
            found = sorted(found, key=lambda row: row[at], reverse=True)
        else:
            found = sorted(found, key=lambda row: row[at])
    return found


def placed_entries(order, names):
    """The entries of an Order, with the positions of their columns among the names instead of the columns."""
    return [(names.index(column), direction) for column, direction in order.entries]
