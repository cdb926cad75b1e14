"""References: columns with the names of their tables."""


def reference_to(table, column):
    """The reference to a column of a table."""
    return f"{table}.{column}"


def kinds_by_reference(tables):
    """The dict from all references to the kinds of their columns, of a list of tuples (table, columns)."""
    return {reference_to(table, name): kind for table, columns in tables for name, kind in columns}
