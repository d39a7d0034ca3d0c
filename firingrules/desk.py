"""Desks: lines of text that are executed one after another."""

from firingrules.books import MOST_DEEDS, Book
from firingrules.errors import NoCommand, NoText, Wrong
from firingrules.notation import read_rule, read_statement, show_statement
from firingrules.ruleset import Rules
from firingrules.schemas import Schema
from firingrules.tables import decide
from firingrules.words import is_name


def statement_in(schema, line):
    """Return the statement that a line writes, or None."""
    try:
        return read_statement(schema, line)
    except NoText:
        return None


def rule_in(schema, line):
    """Return the rule that a line writes, or None."""
    try:
        return read_rule(schema, line)
    except NoText:
        return None


def named(line, words):
    """Return the tuple (word, name) of a line that is one of some words and a name, or None."""
    parts = tuple(line.split(" "))
    if len(parts) == 2 and parts[0] in words and is_name(parts[1]):
        return parts
    return None


def show_rows(rows):
    """Return the text of some rows."""
    if len(rows) == 0:
        return "empty"
    return ", ".join([" ".join([str(value) for value in row]) for row in rows])


class Desk:
    """A Book that is written by lines of text.

    noted has the deeds of a transaction that has begun, or is None.
    """

    def __init__(self, schema):
        if not isinstance(schema, Schema):
            raise Wrong(0)
        self._schema = schema
        self._book = Book(Rules(schema, []), schema.empty)
        self._noted = None

    def execute(self, line):
        """Execute a line, and return its answer."""
        if not isinstance(line, str):
            raise NoCommand()
        if self._noted is None:
            return self.execute_outside(line)
        return self.execute_within(line)

    def execute_within(self, line):
        """Execute a line behind the beginning of a transaction."""
        if line == "cancel":
            self._noted = None
            return "cancelled"
        if line == "commit":
            words = self._book.do(("transact", self._noted))
            self._noted = None
            return " ".join(words)
        deed = named(line, ("save", "back"))
        if deed is None:
            deed = statement_in(self._schema, line)
        if deed is None or len(self._noted) == MOST_DEEDS:
            raise NoCommand()
        self._noted = self._noted + [deed]
        return "noted"

    def execute_outside(self, line):
        """Execute a line where no transaction has begun."""
        if line == "begin":
            self._noted = []
            return "noted"
        if line == "ends":
            return self.ends_told()
        statement = statement_in(self._schema, line)
        if statement is not None:
            words = self._book.do(("transact", [statement]))
            return words[0] if words[0] == "refused" else words[1]
        shown = named(line, ("show",))
        if shown is not None and shown[1] in self._schema:
            return show_rows(self._book.database[self._schema.names.index(shown[1])])
        self.change(line)
        return "done"

    def change(self, line):
        """Add or drop a rule, or take back or do again what was done, as a line tells."""
        rule = rule_in(self._schema, line)
        if rule is not None:
            self._book.do(("add", rule))
        elif named(line, ("drop",)) is not None:
            self._book.do(named(line, ("drop",)))
        elif line == "undo":
            self._book.undo()
        elif line == "redo":
            self._book.redo()
        else:
            raise NoCommand()

    def ends_told(self):
        """Return whether all runs end, or from which statement one does not."""
        found = decide(self._book.rules)
        return "yes" if found[0] == "ends" else "no " + show_statement(found[1])
