"""Schemas: how many values there are, and which tables with which columns."""

from firingrules.errors import BadTable, TooMany, Wrong
from firingrules.words import check_different, is_integer, is_name


def describes_table(thing):
    """Return whether thing is a tuple (name, columns, keys) of a table."""
    if not isinstance(thing, tuple) or len(thing) != 3:
        return False
    name, columns, keys = thing
    if not is_name(name) or not isinstance(columns, tuple) or not 1 <= len(columns) <= 3:
        return False
    if not all([is_name(column) for column in columns]) or len(set(columns)) < len(columns):
        return False
    return is_integer(keys) and 1 <= keys <= len(columns)


def check_tables(tables):
    """Raise BadTable or Twice for the first table that is not as described."""
    for at, table in enumerate(tables):
        if not describes_table(table):
            raise BadTable(at)
    check_different([table[0] for table in tables])


def all_tuples(size, length):
    """Return the ascending list of the tuples of this many values."""
    found = [()]
    for _ in range(length):
        found = [head + (value,) for head in found for value in range(size)]
    return found


def power(base, times):
    """Return the product of base with itself, so many times."""
    result = 1
    for _ in range(times):
        result *= base
    return result


def count_databases(size, tables):
    """Return the number of databases of these tables."""
    result = 1
    for _, columns, keys in tables:
        # Each key is without a row, or has one with any values in the other columns.
        result *= power(1 + power(size, len(columns) - keys), power(size, keys))
    return result


def rank(database):
    """Return what databases are ordered by."""
    return (sum([len(content) for content in database]), database)


class Schema:
    """A size and one to three tables."""

    def __init__(self, size, tables):
        if not is_integer(size) or not 2 <= size <= 4:
            raise Wrong(0)
        if not isinstance(tables, (list, tuple)) or not 1 <= len(tables) <= 3:
            raise Wrong(1)
        check_tables(tables)
        self.size = size
        self.tables = tuple(tables)
        self.names = tuple([table[0] for table in tables])
        self._columns = {table[0]: table[1] for table in tables}
        self._key_counts = {table[0]: table[2] for table in tables}
        self.empty = tuple([() for _ in tables])
        self.many = count_databases(size, tables)

    def __eq__(self, other):
        return isinstance(other, Schema) and self.size == other.size and self.tables == other.tables

    def __len__(self):
        return len(self.tables)

    def __contains__(self, x):
        return is_name(x) and x in self._columns

    def columns(self, name):
        """Return the tuple of the columns of a table."""
        return self._columns[name]

    def key_count(self, name):
        """Return the number of the key columns of a table."""
        return self._key_counts[name]

    def is_row(self, name, thing):
        """Return whether thing is a row of a table."""
        if not isinstance(thing, tuple) or len(thing) != len(self._columns[name]):
            return False
        return all([is_integer(value) and 0 <= value < self.size for value in thing])

    def is_content(self, name, thing):
        """Return whether thing is a content of a table."""
        if not isinstance(thing, tuple) or not all([self.is_row(name, row) for row in thing]):
            return False
        keys = [row[:self._key_counts[name]] for row in thing]
        # Rows begin with their keys, so these alone tell the order of the rows.
        return all([one < other for one, other in zip(keys, keys[1:])])

    def is_database(self, thing):
        """Return whether thing is a database."""
        if not isinstance(thing, tuple) or len(thing) != len(self.names):
            return False
        return all([self.is_content(name, content) for name, content in zip(self.names, thing)])

    def rows(self, name):
        """Return the ascending list of all rows of a table."""
        return all_tuples(self.size, len(self._columns[name]))

    def contents(self, name):
        """Return the list of all contents of a table."""
        keys = self._key_counts[name]
        rests = all_tuples(self.size, len(self._columns[name]) - keys)
        found = [()]
        for key in all_tuples(self.size, keys):
            choices = [()] + [(key + rest,) for rest in rests]
            found = [content + choice for content in found for choice in choices]
        return found

    def databases(self, *, most=1000):
        """Return the list of all databases in their order."""
        if self.many > most:
            raise TooMany(most)
        found = [()]
        for name in self.names:
            contents = self.contents(name)
            found = [database + (content,) for database in found for content in contents]
        return sorted(found, key=rank)
