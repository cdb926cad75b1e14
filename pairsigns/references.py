"""References: columns with the names of their tables."""


def reference_to(table, column):
    """The reference to a column of a table."""
    return f"{table}.{column}"


def kinds_by_reference(tables):
    """The dict from all references to the kinds of their columns, of a list of tuples (table, columns)."""
    return {reference_to(table, name): kind for table, columns in tables for name, kind in columns}


def references_to(query, table):
    """The list of the references to a table of the query, in the sequence of its columns."""
    return [reference_to(table, name) for name, _ in query.columns_of(table)]


def coming_of(table):
    """The thing that stands for the places of the rows of a table."""
    return reference_to(table, "coming")
