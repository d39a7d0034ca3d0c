"""Tables of calls: whether all runs end, with which ends, and with how many firings."""

from firingrules.beginnings import asked, chosen
from firingrules.errors import TooMany
from firingrules.searches import FIRINGS, NONE, SHORT, Search, weights_of
from firingrules.statements import is_statement
from firingrules.walks import Walk, ascending
from firingrules.words import is_integer


def starts(schema, statements=None, *, most=1000):
    """Return the list of all tuples of a statement and a database, in their order."""
    given = chosen(schema, statements)
    if len(given) * schema.many > most:
        raise TooMany(most)
    if len(given) == 0:
        return []
    return [(statement, database) for database in schema.databases(most=most) for statement in given]


def decide(rules, starts=None, *, most=1000):
    """Return a table of calls for the starts, or the first one from which some run never ends."""
    search = Search(rules, SHORT, most)
    endless = search.settle_all(asked(rules.schema, starts, most))
    if endless is not None:
        return ("endless",) + endless
    return ("ends", search.rows())


def is_row(schema, thing):
    """Return whether thing is a tuple of a call, a list of ends and a height."""
    if not isinstance(thing, tuple) or len(thing) != 4:
        return False
    statement, database, ends, height = thing
    if not is_statement(schema, statement) or not schema.is_database(database) or not isinstance(ends, list):
        return False
    if not all([end is None or schema.is_database(end) for end in ends]):
        return False
    return is_integer(height) and height >= 0


def is_right(rules, row, table, heights):
    """Return whether a row has the ends of the table, and a height above those of the calls within."""
    walk = Walk(rules, row[:2], NONE)
    walk.explore(table)
    if row[2] != ascending(walk.ends):
        return False
    return all([call in heights and heights[call] < row[3] for call in walk.calls])


def is_table(rules, starts, thing):
    """Return whether thing is a table of calls for the starts."""
    if not isinstance(thing, list) or not all([is_row(rules.schema, row) for row in thing]):
        return False
    calls = [row[:2] for row in thing]
    heights = {row[:2]: row[3] for row in thing}
    if calls != sorted(heights) or not all([start in heights for start in starts]):
        return False
    table = ends_in(thing)
    return all([is_right(rules, row, table, heights) for row in thing])


def ends_in(table):
    """Return, for each call of a table, its ends with weight 0."""
    return {row[:2]: {end: 0 for end in row[2]} for row in table}


def by_height(row):
    """Return the height of a row."""
    return row[3]


def weighed(rules, table):
    """Return, for each call of a table, its ends with the greatest numbers of firings."""
    found = {}
    for row in sorted(table, key=by_height):
        walk = Walk(rules, row[:2], FIRINGS)
        walk.explore(found)
        found[row[:2]] = weights_of(walk)
    return found


def firings(rules, table):
    """Return, for each row of a table, the greatest number of firings for each of its ends."""
    found = weighed(rules, table)
    return [row[:2] + ([(end, found[row[:2]][end]) for end in row[2]],) for row in table]


def longest(rules, table, at):
    """Return the greatest number of firings in a run of the call in a row, and its turn list."""
    call = table[at][:2]
    search = Search(rules, FIRINGS, len(table))
    search.settle(call)
    weights = search.table[call]
    many = max([weights[end] for end in weights])
    best = [end for end in table[at][2] if weights[end] == many]
    return (many, search.turns_of([(call, best[0])]))
