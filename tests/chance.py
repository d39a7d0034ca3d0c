"""Rules, statements and databases by chance, from a seed."""

import itertools
import random

from firingrules.ruleset import Rules
from firingrules.schemas import Schema

REFUSE = (('refuse',),)
SKIP = (('skip',),)


class Chance:
    """Rules, statements and databases, one after another from a seed."""

    def __init__(self, seed, schema=None):
        self.random = random.Random(seed)
        keys = self.random.randint(1, 3)
        self.schema = schema or Schema(3, [('t', ('k', 'v'), 1), ('u', ('a', 'b', 'c'), keys)])
        self.focus(3 * len(self.schema))

    def term(self, columns, words):
        """A term."""
        if words and self.random.random() < 0.5:
            return (self.random.choice(words), self.random.choice(columns))
        return self.random.randrange(self.schema.size)

    def where(self, table, columns, words, least=0):
        """Pairs of columns of a table and terms."""
        own = self.schema.columns(table)
        many = self.random.randint(least, len(own))
        picked = self.random.sample(own, many)
        return tuple([(column, self.term(columns, words)) for column in own if column in picked])

    def test(self, columns, words):
        """A test."""
        word = self.random.choice(['same', 'same', 'other', 'some', 'no'])
        if word in ('same', 'other'):
            return (word, self.term(columns, words), self.term(columns, words))
        table = self.random.choice(self.schema.names)
        return (word, table, self.where(table, columns, words))

    def rule(self, name, table, event):
        """A rule ahead of a row, or now and then one ahead of the statement."""
        own = self.schema.columns(table)
        columns = self.columns(own, event)
        if self.random.random() < 0.1:
            tests = tuple([self.test(own, []) for _ in range(self.random.randint(1, 2))])
            return (name, table, event, columns, 'ahead', 'statement', tests, REFUSE)
        words = {'insert': ['new'], 'delete': ['old'], 'update': ['old', 'new']}[event]
        tests = tuple([self.test(own, words) for _ in range(self.random.choice([0, 1, 1, 2]))])
        actions = []
        for _ in range(self.random.randint(1, 3)):
            kind = self.random.choice(['turn', 'turn', 'turn', 'skip', 'refuse'])
            if kind != 'turn':
                actions.append((kind,))
            elif event != 'delete':
                actions.append(('turn', self.random.choice(own), self.term(own, words)))
        return (name, table, event, columns, 'ahead', 'row', tests, tuple(actions) or SKIP)

    def columns(self, own, event):
        """The columns of a rule."""
        return tuple([c for c in own if self.random.random() < 0.3]) if event == 'update' else ()

    def writing(self, columns, words):
        """A statement with terms, as an action."""
        table, kind = self.random.choice(self.targets)
        if kind == 'insert':
            kind = self.random.choice(['insert', 'offer', 'offer', 'offer'])
        if kind in ('insert', 'offer'):
            return (kind, table, tuple([self.term(columns, words) for _ in self.schema.columns(table)]))
        where = () if self.random.random() < 0.2 else self.where(table, columns, words, 1)
        if kind == 'delete':
            return (kind, table, where)
        return (kind, table, where, self.where(table, columns, words, 1))

    def active(self, name, table, event, when):
        """A rule that is behind or late."""
        own = self.schema.columns(table)
        level = self.random.choice(['row', 'row', 'statement'])
        words = {'insert': ['new'], 'delete': ['old'], 'update': ['old', 'new']}[event] if level == 'row' else []
        tests = tuple([self.test(own, words) for _ in range(self.random.choice([0, 1, 1, 2]))])
        actions = []
        for _ in range(self.random.choice([1, 1, 1, 2, 3])):
            actions.append(('refuse',) if self.random.random() < 0.1 else self.writing(own, words))
        return (name, table, event, self.columns(own, event), when, level, tests, tuple(actions))

    def focus(self, many):
        """Let rules, actions and statements be of so many tables and events alone."""
        both = [(table, event) for table in self.schema.names for event in ('insert', 'delete', 'update')]
        self.focused = self.targets = self.random.sample(both, many)

    def part(self, many):
        """Let rules be of so many tables and events, and what they write of the others."""
        self.focus(3 * len(self.schema))
        self.focused, self.targets = self.focused[:many], self.focused[many:]

    def any_rule(self, name, whens=('ahead', 'behind', 'behind', 'behind')):
        """A rule of any table, event and time."""
        table, event = self.random.choice(self.focused)
        when = self.random.choice(whens)
        return self.rule(name, table, event) if when == 'ahead' else self.active(name, table, event, when)

    def any_rules(self, many, share=0.25, whens=('ahead', 'behind', 'behind', 'behind')):
        """Rules of any kind, with an order."""
        given = [self.any_rule('abcdefghijkl'[at], whens) for at in range(many)]
        free = Rules(self.schema, given)
        line = self.random.sample(free.names, many)
        pairs = [pair for pair in itertools.combinations(line, 2)
                 if pair in free.competing() and self.random.random() < share]
        return Rules(self.schema, given, pairs)

    def any_statement(self):
        """A statement of any table and event."""
        return self.statement(*self.random.choice(self.focused))

    def database(self):
        """A database with few rows."""
        parts = []
        for name in self.schema.names:
            rows = {}
            whole = self.schema.rows(name)
            for row in self.random.sample(whole, self.random.randint(0, min(4, len(whole)))):
                rows[row[:self.schema.key_count(name)]] = row
            parts.append(tuple(sorted(rows.values())))
        return tuple(parts)

    def statement(self, table, event):
        """A statement of this table and event."""
        if event == 'insert':
            return (self.random.choice(['insert', 'offer']), table, self.random.choice(self.schema.rows(table)))
        where = self.where(table, (), [])
        if self.random.random() < 0.5:
            where = ()
        if event == 'delete':
            return ('delete', table, where)
        return ('update', table, where, self.where(table, (), [], 1))

    def pairs(self, names):
        """Pairs of an order of some names."""
        line = self.random.sample(names, len(names))
        return [pair for pair in itertools.combinations(line, 2) if self.random.random() < 0.25]

    def case(self):
        """Rules of one place ahead of a row, a statement and a database."""
        table, event = self.random.choice(['t', 'u']), self.random.choice(['insert', 'delete', 'update', 'update'])
        given = [self.rule('abcdef'[at], table, event) for at in range(self.random.randint(0, 5))]
        names = [rule[0] for rule in given if rule[5] == 'row']
        rules = Rules(self.schema, given, self.pairs(names))
        return rules, self.statement(table, event), self.database()
