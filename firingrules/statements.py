"""Statements, the rows that they hit, and the databases behind changes."""

from firingrules.terms import are_pairs, are_terms, is_word, matches, put


def is_writing(schema, scope, thing):
    """Return whether thing is a statement with terms of a scope in the place of values."""
    if not isinstance(thing, tuple) or not 3 <= len(thing) <= 4 or thing[1] not in schema:
        return False
    kind, columns = thing[0], schema.columns(thing[1])
    if is_word(kind, ("insert", "offer")):
        return len(thing) == 3 and are_terms(columns, scope, thing[2])
    if not are_pairs(columns, scope, thing[2]):
        return False
    if is_word(kind, ("delete",)):
        return len(thing) == 3
    if not is_word(kind, ("update",)) or len(thing) != 4:
        return False
    return are_pairs(columns, scope, thing[3]) and len(thing[3]) > 0


def is_statement(schema, thing):
    """Return whether thing is a statement for a schema."""
    return is_writing(schema, (schema.size, (), ()), thing)


def event_of(statement):
    """Return the event of a statement."""
    return "insert" if statement[0] == "offer" else statement[0]


def hits(schema, statement, database):
    """Return the list of the tuples (old, new) that a statement hits."""
    kind, table, rest = statement[:3]
    if kind in ("insert", "offer"):
        return [(None, rest)]
    columns = schema.columns(table)
    content = database[schema.names.index(table)]
    found = [row for row in content if matches(columns, row, rest)]
    if kind == "delete":
        return [(row, None) for row in found]
    return [(row, put(columns, row, statement[3])) for row in found]


def change(schema, table, database, changed):
    """Return the database with all changes done at once, or None if keys forbid it."""
    count = schema.key_count(table)
    at = schema.names.index(table)
    row_of = {row[:count]: row for row in database[at]}
    # All old rows go first, so that new ones may take their keys.
    for old, _ in changed:
        if old is not None:
            del row_of[old[:count]]
    for _, new in changed:
        if new is not None:
            if new[:count] in row_of:
                return None
            row_of[new[:count]] = new
    content = tuple([row_of[key] for key in sorted(row_of)])
    return database[:at] + (content,) + database[at + 1:]


def single_of(schema, table):
    """Return the list of the statements about one row of a table."""
    columns, count = schema.columns(table), schema.key_count(table)
    rows = schema.rows(table)
    found = [("insert", table, row) for row in rows]
    for key in sorted({row[:count] for row in rows}):
        found.append(("delete", table, tuple(zip(columns, key))))
    if count == len(columns):
        return found
    for row in rows:
        pairs = tuple(zip(columns, row))
        found.append(("update", table, pairs[:count], pairs[count:]))
    return found


def single(schema):
    """Return the ascending list of the statements about one row."""
    return sorted([statement for table in schema.names for statement in single_of(schema, table)])
