"""The statements and starts that are asked for, the order of databases and starts, and the first ones of all."""

from firingrules.schemas import power, rank
from firingrules.statements import single


def chosen(schema, statements):
    """Return the ascending list of the statements that are asked for."""
    return single(schema) if statements is None else sorted(statements)


def start_rank(start):
    """Return what starts are ordered by."""
    return (rank(start[1]), start[0])


def in_order(starts):
    """Return the list of some starts in their order."""
    return sorted(starts, key=start_rank)


def keys_of(schema, name):
    """Return the number of the keys of a table."""
    return power(schema.size, schema.key_count(name))


def place_of(schema, key):
    """Return how many keys are ahead of a key."""
    found = 0
    for value in key:
        found = found * schema.size + value
    return found


def followers(schema, contents, rows, left):
    """Return what may follow the first contents and the first rows of the next one, ascending.

    left is the number of rows that are still to come.
    """
    name = schema.names[len(contents)]
    count = schema.key_count(name)
    room = sum([keys_of(schema, other) for other in schema.names[len(contents) + 1:]])
    found = []
    if left <= room:
        found.append((contents + (rows,), (), left))
    for row in schema.rows(name):
        more = keys_of(schema, name) - 1 - place_of(schema, row[:count])
        if 1 <= left <= 1 + more + room and (len(rows) == 0 or rows[-1][:count] < row[:count]):
            found.append((contents, rows + (row,), left - 1))
    return found


def with_rows(schema, total, many):
    """Return the list of the first databases with this number of rows, at most so many."""
    found = []
    todo = [((), (), total)]
    while len(todo) > 0 and len(found) < many:
        contents, rows, left = todo.pop()
        if len(contents) == len(schema):
            found.append(contents)
        else:
            more = followers(schema, contents, rows, left)
            more.reverse()
            todo.extend(more)
    return found


def first_databases(schema, many):
    """Return the list of the first databases in their order, at most so many."""
    found = []
    for total in range(1 + sum([keys_of(schema, name) for name in schema.names])):
        if len(found) < many:
            found.extend(with_rows(schema, total, many - len(found)))
    return found


def first_starts(schema, many):
    """Return the list of the first starts in their order, at most so many."""
    statements = single(schema)
    databases = first_databases(schema, many // len(statements) + 1)
    return [(statement, database) for database in databases for statement in statements][:many]


def asked(schema, starts, most):
    """Return the starts that are asked for, in their order; of all of them one more than most is enough."""
    return first_starts(schema, most + 1) if starts is None else in_order(starts)
