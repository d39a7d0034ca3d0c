"""Terms, pairs of columns and terms, and what they are in rows.

A scope tells which terms may stand at a place. It is a tuple (size, words,
columns): values below size, and tuples of one of the words and one of the
columns. A scope without words takes values alone.
"""

from firingrules.words import is_integer


def is_word(thing, words):
    """Return whether thing is one of a tuple of strings."""
    return isinstance(thing, str) and thing in words


def is_term(scope, thing):
    """Return whether thing is a term of a scope."""
    size, words, columns = scope
    if is_integer(thing):
        return 0 <= thing < size
    if not isinstance(thing, tuple) or len(thing) != 2:
        return False
    return is_word(thing[0], words) and is_word(thing[1], columns)


def are_columns(columns, thing):
    """Return whether thing is a tuple of different ones of the columns, in their order."""
    if not isinstance(thing, tuple) or not all([is_word(name, columns) for name in thing]):
        return False
    return list(thing) == [column for column in columns if column in thing]


def are_terms(columns, scope, thing):
    """Return whether thing is a tuple of terms, one for each of the columns."""
    if not isinstance(thing, tuple) or len(thing) != len(columns):
        return False
    return all([is_term(scope, term) for term in thing])


def are_pairs(columns, scope, thing):
    """Return whether thing is a tuple of pairs (column, term), in the order of the columns."""
    if not isinstance(thing, tuple):
        return False
    for pair in thing:
        if not isinstance(pair, tuple) or len(pair) != 2 or not is_term(scope, pair[1]):
            return False
    return are_columns(columns, tuple([pair[0] for pair in thing]))


def value_of(columns, term, old, new):
    """Return the value of a term, whose columns are these, with the rows at hand."""
    if is_integer(term):
        return term
    word, column = term
    row = old if word == "old" else new
    return row[columns.index(column)]


def values_of(columns, pairs, old, new):
    """Return the pairs with values in the place of their terms."""
    return tuple([(column, value_of(columns, term, old, new)) for column, term in pairs])


def matches(columns, row, where):
    """Return whether a row has the values of a where in its columns."""
    return all([row[columns.index(column)] == value for column, value in where])


def put(columns, row, sets):
    """Return the row with the values of sets in its columns."""
    values = {column: value for column, value in sets}
    return tuple([values.get(column, value) for column, value in zip(columns, row)])


def concerns(columns, names, old, new):
    """Return whether the rows differ in one of the named columns, or none is named."""
    if len(names) == 0:
        return True
    places = [columns.index(name) for name in names]
    return any([old[place] != new[place] for place in places])
