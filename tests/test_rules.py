"""[32], [33], [3], [4]: rules, their conditions, and what their actions write."""

import unittest

from firingrules.rules import holds, is_rule, statement_of
from firingrules.schemas import Schema
from firingrules.statements import is_statement
from tests import oracle
from tests.support import all_statements, all_tests, any_values, large, nearly, picks, small

EVENTS = ('insert', 'delete', 'update')
WHENS = ('ahead', 'behind', 'late')
LEVELS = ('row', 'statement')
REFUSE = (('refuse',),)


def made(event='update', when='behind', level='row', condition=(), actions=REFUSE, columns=(), table='t', name='rule'):
    """A rule."""
    return (name, table, event, columns, when, level, condition, actions)


def kinds():
    """All tuples of an event, a time and a level."""
    return [(event, when, level) for event in EVENTS for when in WHENS for level in LEVELS]


def terms_of(event, level, columns=('k', 'v')):
    """All terms that may stand in a rule, with values 0 and 1."""
    words = {'insert': ['new'], 'delete': ['old'], 'update': ['old', 'new']}[event]
    if level == 'statement':
        words = []
    return [0, 1] + [(word, column) for word in words for column in columns]


def actions_of(event, when, level):
    """All actions that may stand in a rule of t, with values 0 and 1."""
    terms = terms_of(event, level)
    found = [('refuse',)]
    if when != 'ahead':
        return found + all_statements(small().tables, terms)
    if level == 'row':
        found.append(('skip',))
        if event != 'delete':
            found += [('turn', column, term) for column in ('k', 'v') for term in terms]
    return found


class IsRuleTest(unittest.TestCase):
    def test_rules_of_all_kinds(self):
        for event, when, level in kinds():
            self.assertIs(is_rule(small(), made(event, when, level)), True)
            self.assertIs(is_rule(small(), made(event, when, level, table='u')), True)
            self.assertIs(is_rule(small(), made(event, when, level, table='w')), False)

    def test_nearly_rules(self):
        schema = small()
        for event, when, level in kinds():
            for at, thing in enumerate(nearly(made(event, when, level)[:6])):
                right = False
                if isinstance(thing, tuple) and len(thing) == 6:
                    name, table, its_event, columns, its_when, its_level = thing
                    right = (isinstance(name, str) and name.isalpha() and name.islower() and len(name) <= 8
                             and repr(table) in ("'t'", "'u'") and repr(its_event) in map(repr, EVENTS)
                             and repr(columns) == '()' and repr(its_when) in map(repr, WHENS)
                             and repr(its_level) in map(repr, LEVELS))
                whole = thing + ((), REFUSE) if isinstance(thing, tuple) else thing
                self.assertIs(is_rule(schema, whole), right, repr(whole))

    def test_names(self):
        for name in ('a', 'abcdefgh', 't', 'k', 'refuse'):
            self.assertIs(is_rule(small(), made(name=name)), True)
        for name in ('', 'abcdefghi', 'A', 'a1', 'a\n', 1, None, True, ('a',), b'a', ['a']):
            self.assertIs(is_rule(small(), made(name=name)), False)

    def test_columns(self):
        schema = Schema(2, [('t', ('b', 'a', 'c'), 1), ('u', ('k',), 1)])
        right = [(), ('b',), ('a',), ('c',), ('b', 'a'), ('b', 'c'), ('a', 'c'), ('b', 'a', 'c')]
        tried = picks(('b', 'a', 'c', 'k', 0), 4) + any_values() + [['b'], ['b', 'a'], 'b', None, (('b',),)]
        for when in WHENS:
            for level in LEVELS:
                for columns in tried:
                    good = isinstance(columns, tuple) and repr(columns) in map(repr, right)
                    self.assertIs(is_rule(schema, made('update', when, level, columns=columns)), good)
                    good = repr(columns) == '()'
                    self.assertIs(is_rule(schema, made('insert', when, level, columns=columns)), good)
                    self.assertIs(is_rule(schema, made('delete', when, level, columns=columns)), good)

    def test_every_test_and_what_is_nearly_one(self):
        schema = small()
        for event, when, level in kinds():
            right = all_tests(schema.tables, terms_of(event, level))
            known = {repr(test) for test in right}
            tried = right + all_tests(schema.tables, terms_of('update', 'row', ('k', 'v', 'w')))
            for test in right[::11]:
                tried += nearly(test)
            for test in tried:
                rule = made(event, when, level, (test,))
                self.assertIs(is_rule(schema, rule), repr(test) in known, repr(rule))

    def test_every_action_and_what_is_nearly_one(self):
        schema = small()
        others = [action for kind in kinds() for action in actions_of(*kind)[::17]]
        others += [('skip',), ('turn', 'w', 0)]
        others += [('turn', column, term) for column in ('k', 'v') for term in terms_of('update', 'row')]
        for event, when, level in kinds():
            right = actions_of(event, when, level)
            known = {repr(action) for action in right}
            tried = right + others + [action for one in right[::41] + right[:3] for action in nearly(one)]
            for action in tried:
                rule = made(event, when, level, (), (action,))
                self.assertIs(is_rule(schema, rule), repr(action) in known, repr(rule))

    def test_how_many_tests(self):
        test = ('same', 0, 1)
        for many in range(7):
            self.assertIs(is_rule(small(), made(condition=(test,) * many)), many <= 4)
        self.assertIs(is_rule(small(), made(condition=[test])), False)
        self.assertIs(is_rule(small(), made(condition=test)), False)
        for at in range(4):
            tests = [test] * 4
            tests[at] = ('same', 0, 2)
            self.assertIs(is_rule(small(), made(condition=tuple(tests))), False)

    def test_how_many_actions(self):
        for event, when, level in kinds():
            for many in range(6):
                rule = made(event, when, level, (), REFUSE * many)
                self.assertIs(is_rule(small(), rule), 1 <= many <= 3)
        self.assertIs(is_rule(small(), made(actions=list(REFUSE))), False)
        self.assertIs(is_rule(small(), made(actions=('refuse',))), False)
        for at in range(3):
            actions = list(REFUSE) * 3
            actions[at] = ('skip',)
            self.assertIs(is_rule(small(), made(actions=tuple(actions))), False)
            self.assertIs(is_rule(small(), made(actions=tuple(actions), when='ahead')), True)

    def test_the_columns_of_terms_are_those_of_the_rules_table(self):
        on_u = made('update', table='u', condition=(('some', 't', (('v', ('new', 'k')),)),))
        self.assertIs(is_rule(small(), on_u), True)
        on_u = made('update', table='u', condition=(('some', 't', (('v', ('new', 'v')),)),))
        self.assertIs(is_rule(small(), on_u), False)
        on_t = made('update', actions=(('offer', 'u', (('old', 'v'),)),))
        self.assertIs(is_rule(small(), on_t), True)
        on_t = made('update', actions=(('delete', 'u', (('v', ('old', 'v')),)),))
        self.assertIs(is_rule(small(), on_t), False)
        self.assertIs(is_rule(small(), made('update', 'ahead', actions=(('turn', 'v', 0),), table='u')), False)

    def test_values_by_the_size(self):
        for size in (2, 3, 4):
            schema = Schema(size, [('t', ('k', 'v'), 1)])
            for value in range(-1, 6):
                right = 0 <= value < size
                self.assertIs(is_rule(schema, made(condition=(('same', value, 0),))), right)
                self.assertIs(is_rule(schema, made(condition=(('no', 't', (('v', value),)),))), right)
                self.assertIs(is_rule(schema, made(actions=(('insert', 't', (0, value)),))), right)
                self.assertIs(is_rule(schema, made('insert', 'ahead', actions=(('turn', 'k', value),))), right)

    def test_any_value(self):
        schema = small()
        good = made('insert', 'ahead', 'row', (('same', 0, 0),), (('turn', 'v', ('new', 'k')),))
        self.assertIs(is_rule(schema, good), True)
        for thing in any_values():
            self.assertIs(is_rule(schema, thing), isinstance(thing, tuple) and thing[:1] == ('copy',) and len(thing) == 8)
            for at in range(1, 8):
                rule = good[:at] + (thing,) + good[at + 1:]
                allowed = {1: ["'t'"], 2: ["'insert'"], 3: ['()'], 6: ['()'], 4: [], 5: [], 7: []}[at]
                self.assertIs(is_rule(schema, rule), repr(thing) in allowed, repr(rule)[:100])
            for rule in (made(condition=(('same', 0, thing),)), made(actions=(('delete', 't', (('k', thing),)),)),
                         made('update', 'ahead', actions=(('turn', 'k', thing),))):
                self.assertIs(is_rule(schema, rule), repr(thing) in ('0', '1'))
            self.assertIs(is_rule(schema, made(actions=(thing,))),
                          isinstance(thing, tuple) and repr(thing) in ("('refuse',)", "('insert', 't', (0, 1))"))
            self.assertIs(is_rule(schema, made(condition=(thing,))), False)


class HoldsTest(unittest.TestCase):
    def test_test_by_test(self):
        schema = small()
        database = (((0, 1), (1, 1)), ((0,),))
        true = [
            ('same', 0, 0), ('same', ('old', 'k'), 0), ('same', ('old', 'k'), ('old', 'v')), ('same', ('new', 'v'), 1),
            ('same', ('old', 'k'), ('new', 'k')), ('other', 0, 1), ('other', ('old', 'v'), ('new', 'v')),
            ('some', 't', ()), ('some', 'u', ()), ('some', 't', (('k', 0), ('v', 1))), ('some', 'u', (('k', ('old', 'v')),)),
            ('some', 't', (('v', ('new', 'v')),)), ('no', 't', (('v', 0),)), ('no', 'u', (('k', 1),)),
            ('no', 'u', (('k', ('new', 'v')),)), ('no', 't', (('k', 1), ('v', ('old', 'v')))),
        ]
        opposite = {'same': 'other', 'other': 'same', 'some': 'no', 'no': 'some'}
        for test in true:
            turned_round = (opposite[test[0]],) + test[1:]
            self.assertIs(holds(schema, made(condition=(test,)), database, (0, 0), (0, 1)), True, test)
            self.assertIs(holds(schema, made(condition=(turned_round,)), database, (0, 0), (0, 1)), False, test)

    def test_empty_tables(self):
        for where in ((), (('k', 0),)):
            for table in ('t', 'u'):
                some, no = made(condition=(('some', table, where),)), made(condition=(('no', table, where),))
                self.assertIs(holds(small(), some, small().empty, (0, 0), (0, 1)), False)
                self.assertIs(holds(small(), no, small().empty, (0, 0), (0, 1)), True)

    def test_all_tests_must_hold(self):
        for right in picks((True, False), 4):
            condition = tuple([('same', 0, 0 if one else 1) for one in right])
            found = holds(small(), made(condition=condition), small().empty, (0, 0), (0, 1))
            self.assertIs(found, all(right))

    def test_one_row_must_match_in_all_columns(self):
        database = (((0, 0), (1, 1)), ())
        some = made('insert', level='statement', condition=(('some', 't', (('k', 0), ('v', 1))),))
        self.assertIs(holds(small(), some, database, None, None), False)

    def test_without_rows(self):
        for event, when, level in kinds():
            rule = made(event, when, level, (('some', 'u', ()), ('same', 1, 1)))
            if level == 'statement':
                self.assertIs(holds(small(), rule, ((), ((1,),)), None, None), True)
                self.assertIs(holds(small(), rule, small().empty, None, None), False)

    def test_every_test_with_every_row(self):
        schema = small()
        databases = [schema.empty, (((0, 1),), ((1,),)), (((0, 0), (1, 1)), ((0,),))]
        rows = schema.rows('t')
        cases = {'insert': [(None, new) for new in rows], 'delete': [(old, None) for old in rows],
                 'update': [(old, new) for old in rows[1:3] for new in rows]}
        for event in EVENTS:
            for test in all_tests(schema.tables, terms_of(event, 'row')):
                rule = made(event, condition=(test,))
                for database in databases:
                    for old, new in cases[event]:
                        wanted = oracle.holds(schema, rule, database, old, new)
                        self.assertIs(holds(schema, rule, database, old, new), wanted)

    def test_rows_of_the_rules_table(self):
        schema = large()
        rule = made(table='a', condition=(('same', ('old', 'x'), 3), ('some', 'c', (('r', ('new', 'z')),))))
        database = ((), (), ((0, 2),))
        self.assertIs(holds(schema, rule, database, (3, 0, 0), (3, 0, 2)), True)
        self.assertIs(holds(schema, rule, database, (3, 0, 0), (3, 2, 0)), False)
        self.assertIs(holds(schema, rule, database, (0, 3, 3), (3, 0, 2)), False)


class StatementOfTest(unittest.TestCase):
    def test_each_action(self):
        schema = small()
        old, new = (0, 1), (1, 0)
        cases = [
            (('refuse',), None),
            (('insert', 't', (0, 1)), ('insert', 't', (0, 1))),
            (('insert', 't', (('old', 'v'), ('new', 'v'))), ('insert', 't', (1, 0))),
            (('offer', 'u', (('new', 'k'),)), ('offer', 'u', (1,))),
            (('delete', 't', ()), ('delete', 't', ())),
            (('delete', 't', (('k', ('new', 'k')), ('v', 0))), ('delete', 't', (('k', 1), ('v', 0)))),
            (('delete', 'u', (('k', ('old', 'k')),)), ('delete', 'u', (('k', 0),))),
            (('update', 't', (), (('v', ('old', 'v')),)), ('update', 't', (), (('v', 1),))),
            (('update', 't', (('k', ('old', 'k')),), (('k', ('new', 'k')), ('v', ('new', 'v')))),
             ('update', 't', (('k', 0),), (('k', 1), ('v', 0)))),
            (('update', 'u', (('k', 1),), (('k', 0),)), ('update', 'u', (('k', 1),), (('k', 0),))),
        ]
        for action, statement in cases:
            for when in ('behind', 'late'):
                rule = made('update', when, 'row', (), (('refuse',), action))
                self.assertIs(is_rule(schema, rule), True)
                self.assertEqual(statement_of(schema, rule, action, old, new), statement)

    def test_every_action_with_every_row(self):
        schema = small()
        for event in EVENTS:
            for action in actions_of(event, 'behind', 'row')[1::3]:
                rule = made(event, actions=(action,))
                for row in schema.rows('t'):
                    old = None if event == 'insert' else row
                    new = None if event == 'delete' else row[::-1]
                    found = statement_of(schema, rule, action, old, new)
                    self.assertIs(is_statement(schema, found), True)
                    self.assertEqual(found, oracle.put_in(action, oracle.rows_at_hand(schema, rule, old, new)))

    def test_without_rows(self):
        schema = small()
        for action in all_statements(schema.tables, (0, 1)):
            rule = made('insert', 'late', 'statement', actions=(action,))
            self.assertEqual(statement_of(schema, rule, action, None, None), action)
        self.assertIs(statement_of(schema, made(level='statement'), ('refuse',), None, None), None)


if __name__ == '__main__':
    unittest.main()
