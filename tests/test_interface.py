"""The interface of the document: its names, where they are defined, and their arguments."""

import importlib
import inspect
import unittest

FUNCTIONS = {
    'words': ['is_integer(thing)', 'is_name(thing)'],
    'statements': ['is_statement(schema, thing)', 'hits(schema, statement, database)',
                   'change(schema, table, database, changed)', 'single(schema)'],
    'rules': ['is_rule(schema, thing)', 'holds(schema, rule, database, old, new)',
              'statement_of(schema, rule, action, old, new)'],
    'ahead': ['turned(rules, statement, database, hit)', 'changes(rules, statement, database)'],
    'statics': ['raised(rules, name)', 'levels(rules)', 'is_levels(rules, thing)', 'written(rules, name)',
                'read(rules, name)', 'apart(rules, one, other)', 'reach(rules, table)'],
    'bodies': ['body(rules, statement, database, table)'],
    'runs': ['run(rules, statement, database, *, limit=400)', 'play(rules, statement, database, turns)',
             'trace(rules, statement, database, *, limit=400)'],
    'tables': ['starts(schema, statements=None, *, most=1000)', 'decide(rules, starts=None, *, most=1000)',
               'is_table(rules, starts, thing)', 'firings(rules, table)', 'longest(rules, table, at)'],
    'orders': ['one_end(rules, starts=None, *, most=1000)', 'barring(rules, statement, database, turns)',
               'least(rules, starts=None, *, most=1000)', 'is_least(rules, starts, pairs, thing)'],
    'late': ['difference(schema, table, one, other)', 'waiting(rules, state)', 'commit_step(rules, state, table)',
             'commit(rules, beginning, now, *, limit=400)', 'play_commit(rules, beginning, now, turns)',
             'decide_commits(rules, begun, *, most=1000)', 'is_commits(rules, begun, table, thing)'],
    'transactions': ['transact(rules, database, deeds, *, limit=400)'],
    'agree': ['agree(one, other, statements=None, *, most=1000)', 'is_agreement(one, other, statements, thing)',
              'alike(one, other, starts=None, *, most=1000)'],
    'causes': ['steps(rules, database, statements, *, limit=400)',
               'why(rules, database, statements, table, key, *, limit=400)',
               'needed(rules, database, statements, table, key, *, limit=400)'],
    'never': ['fires(rules, name, starts=None, *, most=1000)'],
    'references': ['cascade(schema, reference)', 'guard(schema, reference)', 'bars(schema, reference)',
                   'fits(schema, references, database)', 'fitting(schema, references, database)'],
    'remade': ['split(rules, name, names)', 'timed(rules, name, when)'],
    'notation': ['show_statement(statement)', 'show_rule(rule)', 'read_statement(schema, text)',
                 'read_rule(schema, text)'],
}
CLASSES = {
    'schemas': ['Schema(size, tables)'],
    'ruleset': ['Rules(schema, rules, pairs=())'],
    'books': ['Book(rules, database)'],
    'desk': ['Desk(schema)'],
    'errors': ['Wrong(place)', 'Twice(name)', 'BadTable(at)', 'BadRule(at)', 'BadPair(at)', 'Ring(members)',
               'NoRule(name)', 'TooMany(limit)', 'Stopped(at)', 'NoSave(name)', 'NoEntry(at)'],
}
METHODS = {
    'Schema': ['columns(self, name)', 'key_count(self, name)', 'is_row(self, name, thing)', 'rows(self, name)',
               'is_content(self, name, thing)', 'is_database(self, thing)', 'databases(self, *, most=1000)'],
    'Rules': ['ordered(self, pairs)', 'by_name(self)', 'competing(self)'],
    'Book': ['do(self, deed)', 'undo(self)', 'redo(self)', 'before(self, at, deed)', 'until(self, index)',
             'branch(self)'],
    'Desk': ['execute(self, line)'],
}
SIGNS = {'Schema': ['__eq__', '__len__', '__contains__'],
         'Rules': ['__eq__', '__len__', '__contains__', '__getitem__', '__add__', '__sub__'],
         'Book': ['__len__'], 'Desk': []}
PLACES = {'Schema': 'schemas', 'Rules': 'ruleset', 'Book': 'books', 'Desk': 'desk'}


def found(module, name):
    """A thing of a file of the package."""
    return getattr(importlib.import_module('firingrules.' + module), name)


class InterfaceTest(unittest.TestCase):
    def test_functions(self):
        for module, functions in FUNCTIONS.items():
            for line in functions:
                name = line.split('(')[0]
                thing = found(module, name)
                self.assertTrue(inspect.isfunction(thing))
                self.assertEqual(thing.__module__, 'firingrules.' + module)
                self.assertEqual(name + str(inspect.signature(thing)), line)

    def test_classes(self):
        for module, classes in CLASSES.items():
            for line in classes:
                name = line.split('(')[0]
                thing = found(module, name)
                self.assertTrue(inspect.isclass(thing))
                self.assertEqual(thing.__module__, 'firingrules.' + module)
                self.assertEqual(name + str(inspect.signature(thing)), line)

    def test_methods(self):
        for name, methods in METHODS.items():
            own = vars(found(PLACES[name], name))
            for line in methods:
                method = own[line.split('(')[0]]
                self.assertEqual(line.split('(')[0] + str(inspect.signature(method)), line)
            for sign in SIGNS[name]:
                self.assertIn(sign, own)


if __name__ == '__main__':
    unittest.main()
