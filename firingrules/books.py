"""Books: Rules and a database, with a log of what was done to them, also in the past."""

from firingrules.errors import NoEntry, Nothing, RuleError, Stopped, TooMany, Wrong
from firingrules.ruleset import Rules
from firingrules.statements import is_statement
from firingrules.terms import is_word
from firingrules.transactions import transact
from firingrules.words import is_integer, is_name

MOST_ENTRIES = 100
MOST_DEEDS = 20


def is_part(schema, thing):
    """Return whether thing is a statement, ("save", name) or ("back", name)."""
    if is_statement(schema, thing):
        return True
    return isinstance(thing, tuple) and len(thing) == 2 and is_word(thing[0], ("save", "back")) and is_name(thing[1])


def is_deed(schema, thing):
    """Return whether thing is a deed of a Book whose Rules are of a schema."""
    if not isinstance(thing, tuple) or len(thing) != 2:
        return False
    word, rest = thing
    if is_word(word, ("add", "drop")):
        return True
    if not is_word(word, ("transact",)) or not isinstance(rest, list) or len(rest) > MOST_DEEDS:
        return False
    return all([is_part(schema, part) for part in rest])


def copied(deed):
    """Return a deed that shares no list with this one."""
    return (deed[0], list(deed[1])) if deed[0] == "transact" else deed


def answer(told):
    """Return what a deed told, for the caller to keep."""
    return None if told is None else list(told)


def done(deed, state):
    """Do a deed in a state, a tuple of Rules and a database; return its words, or None, and the state behind it."""
    rules, database = state
    word, rest = deed
    if word == "transact":
        words, behind = transact(rules, database, rest)
        return (words, (rules, behind))
    if word == "add":
        return (None, (rules + rest, database))
    return (None, (rules - rest, database))


class Book:
    """Rules and a database, with the log of the deeds that were done to them.

    An entry is a tuple (deed, told, state behind it).
    """

    def __init__(self, rules, database):
        if not isinstance(rules, Rules):
            raise Wrong(0)
        if not rules.schema.is_database(database):
            raise Wrong(1)
        self.rules = rules
        self.database = database
        self._first = (rules, database)
        self._entries = []
        self._undone = []

    def __len__(self):
        return len(self._entries)

    @property
    def log(self):
        """The list of the tuples of a deed and what it told."""
        return [(copied(deed), answer(told)) for deed, told, _ in self._entries]

    def keep_entries(self, entries, undone):
        """Let these be the entries, and those that were taken back, the latest one last."""
        self._entries = entries
        self._undone = undone
        self.rules, self.database = self.state_ahead(len(entries))

    def state_ahead(self, at):
        """Return the state ahead of the entry at an index."""
        return self._first if at == 0 else self._entries[at - 1][2]

    def entry(self, at, deed):
        """Return the entry of a deed that is done ahead of the entry at an index."""
        if len(self._entries) == MOST_ENTRIES:
            raise TooMany(MOST_ENTRIES)
        return (copied(deed),) + done(deed, self.state_ahead(at))

    def check_index(self, at):
        """Raise NoEntry if at is not an integer from 0 to the number of entries."""
        if not is_integer(at) or not 0 <= at <= len(self._entries):
            raise NoEntry(at)

    def do(self, deed):
        """Do a deed, and return what it tells."""
        if not is_deed(self.rules.schema, deed):
            raise Wrong(0)
        entry = self.entry(len(self._entries), deed)
        self.keep_entries(self._entries + [entry], [])
        return answer(entry[1])

    def undo(self):
        """Take the last entry back."""
        if len(self._entries) == 0:
            raise Nothing()
        self.keep_entries(self._entries[:-1], self._undone + self._entries[-1:])

    def redo(self):
        """Do again the entry that was taken back last."""
        if len(self._undone) == 0:
            raise Nothing()
        self.keep_entries(self._entries + self._undone[-1:], self._undone[:-1])

    def before(self, at, deed):
        """Do a deed ahead of the entry at an index; return the indexes of the entries that tell something else now."""
        self.check_index(at)
        if not is_deed(self.rules.schema, deed):
            raise Wrong(1)
        entries = self._entries[:at] + [self.entry(at, deed)]
        changed = []
        for index in range(at, len(self._entries)):
            old, told, _ = self._entries[index]
            try:
                again = done(old, entries[-1][2])
            except RuleError:
                raise Stopped(index)
            entries.append((old,) + again)
            if again[0] != told:
                changed.append(index)
        self.keep_entries(entries, [])
        return changed

    def until(self, index):
        """Return a Book with the entries ahead of an index."""
        self.check_index(index)
        return self.copy_with(self._entries[:index], [])

    def branch(self):
        """Return a Book with the same entries, and the same ones to do again."""
        return self.copy_with(list(self._entries), list(self._undone))

    def copy_with(self, entries, undone):
        """Return a Book that begins as this one, with these entries and those that were taken back."""
        book = Book(self._first[0], self._first[1])
        book.keep_entries(entries, undone)
        return book
