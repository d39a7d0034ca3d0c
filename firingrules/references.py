"""References: columns that tell keys of a parent, the rules that keep them, and databases that fit.

A reference is a tuple (name, table, column, parent).
"""


def key_column(schema, reference):
    """Return the key column of the parent."""
    return schema.columns(reference[3])[0]


def telling(schema, reference):
    """Return the test whether some row of the table tells the key of the old row of the parent."""
    return ("some", reference[1], ((reference[2], ("old", key_column(schema, reference))),))


def missing(schema, reference):
    """Return the test whether the parent has no key that the new row of the table tells."""
    return ("no", reference[3], ((key_column(schema, reference), ("new", reference[2])),))


def cascade(schema, reference):
    """Return the rule by which the delete of a row of the parent deletes the rows that tell its key."""
    name, table, column, parent = reference
    where = ((column, ("old", key_column(schema, reference))),)
    return (name, parent, "delete", (), "behind", "row", (), (("delete", table, where),))


def guard(schema, reference):
    """Return the rule by which the delete of a row of the parent is refused if some row tells its key."""
    tests = (telling(schema, reference),)
    return (reference[0], reference[3], "delete", (), "behind", "row", tests, (("refuse",),))


def bars(schema, reference):
    """Return the three late rules that refuse what breaks the reference."""
    name, table, column, parent = reference
    tests = (missing(schema, reference),)
    refuse = (("refuse",),)
    return [
        (name + "a", table, "insert", (), "late", "row", tests, refuse),
        (name + "b", table, "update", (column,), "late", "row", tests, refuse),
        (name + "c", parent, "delete", (), "late", "row", (telling(schema, reference),), refuse),
    ]


def misfits(schema, reference, database):
    """Return the list of the rows whose column tells no key of the parent."""
    _, table, column, parent = reference
    there = {row[0]: True for row in database[schema.names.index(parent)]}
    place = schema.columns(table).index(column)
    return [row for row in database[schema.names.index(table)] if row[place] not in there]


def fits(schema, references, database):
    """Return whether each value in the column of a reference is a key of its parent."""
    return all([len(misfits(schema, reference, database)) == 0 for reference in references])


def without(schema, table, database, rows):
    """Return the database without some rows of a table."""
    at = schema.names.index(table)
    content = tuple([row for row in database[at] if row not in rows])
    return database[:at] + (content,) + database[at + 1:]


def fitting(schema, references, database):
    """Return the greatest database that fits and whose rows are all in this one."""
    # A row that does not fit fits in no smaller database either.
    while not fits(schema, references, database):
        for reference in references:
            database = without(schema, reference[1], database, misfits(schema, reference, database))
    return database
