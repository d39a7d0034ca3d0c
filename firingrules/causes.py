"""Why rows change: the steps of transactions, and the rules that are needed."""

from firingrules.commits import Commit
from firingrules.errors import Endless, TooMany
from firingrules.machines import end_of, finish, started
from firingrules.transactions import transact
from firingrules.waits import waited_for


def keys_of(schema, step):
    """Return the list of the tuples (table, key) of the rows that a step changes."""
    if step[0] != "change":
        return []
    table = step[2]
    count = schema.key_count(table)
    return [(table, row[:count]) for row in step[3:] if row is not None]


class Chronicle(Commit):
    """One run of a commit that tells its steps, behind those of the statements.

    changed has for each table and key the number of the last step that changes a row with it.
    """

    def __init__(self, rules, beginning, now, line):
        Commit.__init__(self, rules, beginning, now)
        self.changed = {}
        for step in line:
            self.note(step)

    def note(self, step):
        """Note a step, and return its number."""
        number = super().note(step)
        for place in keys_of(self.schema, step):
            self.changed[place] = number
        return number

    def cause_of(self, old, new):
        """Return the number of the last step that changes the row at which the late rule looks."""
        if old is None and new is None:
            old, new = waited_for(self.rules, self.state, self.at)[0]
        table = self.late[self.at][1]
        row = new if old is None else old
        return self.changed[(table, row[:self.schema.key_count(table)])]


def told(rules, database, statements, limit):
    """Return the steps of a transaction, and the database behind it, or None if it is undone."""
    line, now = [], database
    for statement in statements:
        machine = started(rules, statement, now, line)
        finish(machine, limit)
        if end_of(machine) is None:
            line.append(("call", None, statement))
        else:
            line, now = machine.steps, machine.database
    machine = Chronicle(rules, database, now, line)
    finish(machine, limit)
    end = end_of(machine)
    return (line if end is None else machine.steps, end)


def steps(rules, database, statements, *, limit=400):
    """Return the list of the steps of a transaction."""
    return list(told(rules, database, statements, limit)[0])


def why(rules, database, statements, table, key, *, limit=400):
    """Return the steps from the last change of the row with a key back to the statement that began it."""
    line, end = told(rules, database, statements, limit)
    numbers = [at for at, step in enumerate(line) if (table, key) in keys_of(rules.schema, step)]
    if end is None or len(numbers) == 0:
        return []
    found = []
    number = numbers[-1]
    while number is not None:
        found.append(line[number])
        number = line[number][1]
    return found


def combinations_of(names):
    """Return the list of all tuples of one to three of some names, in their order, shorter ones first."""
    found, layer = [], [()]
    for _ in range(3):
        layer = [head + (name,) for head in layer for name in names if len(head) == 0 or head[-1] < name]
        found.extend(layer)
    return found


def is_within(names, others):
    """Return whether all of some names are among others."""
    return all([name in others for name in names])


class Transaction:
    """A transaction, and the row with a key of a table that it leaves."""

    def __init__(self, database, statements, table, key, limit):
        self.database = database
        self.statements = statements
        self.table = table
        self.key = key
        self.limit = limit

    def row(self, rules):
        """Return the list of the row with the key behind the transaction of some rules; empty if there is none."""
        _, end = transact(rules, self.database, self.statements, limit=self.limit)
        content = end[rules.schema.names.index(self.table)]
        return [row for row in content if row[:len(self.key)] == self.key]

    def is_other(self, rules, names, row):
        """Return whether the transaction of the rules without some of them leaves another row, or does not end."""
        rest = rules
        for name in names:
            rest = rest - name
        try:
            return self.row(rest) != row
        except Endless:
            return True
        except TooMany:
            return True


def needed(rules, database, statements, table, key, *, limit=400):
    """Return the least tuples of one to three names of rules without which the row with a key is another one."""
    transaction = Transaction(database, statements, table, key, limit)
    row = transaction.row(rules)
    found = []
    for names in combinations_of(sorted(rules.names)):
        if not any([is_within(less, names) for less in found]) and transaction.is_other(rules, names, row):
            found.append(names)
    return sorted(found)
