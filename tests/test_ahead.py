"""[40], [9], [3]: what comes of hits by the rules that are ahead."""

import itertools
import unittest

from firingrules.ahead import changes, turned
from firingrules.ruleset import Rules
from tests import oracle
from tests.chance import Chance
from tests.support import large, small, told

REFUSE = (('refuse',),)
SKIP = (('skip',),)
INSERT = ('insert', 't', (0, 0))


def made(name, event='insert', condition=(), actions=REFUSE, columns=(), table='t', level='row'):
    """A rule that is ahead."""
    return (name, table, event, columns, 'ahead', level, condition, actions)


def turn(column, term):
    """The actions of a rule that turns one column."""
    return (('turn', column, term),)


def is_value(word, column, value):
    """A condition on a column of a row at hand."""
    return (('same', (word, column), value),)


def come(schema, rules, statement, database, pairs=()):
    """What comes of the only hit of a statement."""
    found = oracle.hits(schema, statement, database)
    assert len(found) == 1
    return turned(Rules(schema, rules, pairs), statement, database, found[0])


class TurnedTest(unittest.TestCase):
    def test_no_rule(self):
        schema, database = small(), (((0, 1),), ())
        none = Rules(schema, [])
        self.assertEqual(turned(none, INSERT, database, (None, (0, 0))), [('done', (0, 0))])
        self.assertEqual(turned(none, ('offer', 't', (1, 0)), database, (None, (1, 0))), [('done', (1, 0))])
        self.assertEqual(turned(none, ('delete', 't', ()), database, ((0, 1), None)), [('done', None)])
        update = ('update', 't', (), (('v', 1),))
        self.assertEqual(turned(none, update, database, ((0, 1), (0, 1))), [('done', (0, 1))])

    def test_only_the_rules_of_table_event_time_and_level_stand_there(self):
        others = [made('a', 'delete'), made('b', 'update'), made('c', table='u'), made('d', level='statement'),
                  ('e', 't', 'insert', (), 'behind', 'row', (), REFUSE), ('f', 't', 'insert', (), 'late', 'row', (), REFUSE)]
        self.assertEqual(come(small(), others, INSERT, small().empty), [('done', (0, 0))])
        self.assertEqual(come(small(), others + [made('g')], INSERT, small().empty), [('refused', None)])
        self.assertEqual(come(small(), others[:1], ('delete', 't', ()), (((0, 0),), ())), [('refused', None)])
        offer = ('offer', 't', (0, 0))
        self.assertEqual(come(small(), others + [made('g', actions=SKIP)], offer, small().empty), [('passed', None)])

    def test_one_rule(self):
        schema, empty = small(), small().empty
        self.assertEqual(come(schema, [made('a', actions=turn('v', 1))], INSERT, empty), [('done', (0, 1))])
        self.assertEqual(come(schema, [made('a', actions=turn('k', 1))], INSERT, empty), [('done', (1, 0))])
        self.assertEqual(come(schema, [made('a', actions=SKIP)], INSERT, empty), [('passed', None)])
        self.assertEqual(come(schema, [made('a')], INSERT, empty), [('refused', None)])
        never = made('a', condition=is_value('new', 'v', 1))
        self.assertEqual(come(schema, [never], INSERT, empty), [('done', (0, 0))])

    def test_actions_one_after_another(self):
        schema, empty = small(), small().empty
        swap = turn('k', ('new', 'v')) + turn('v', ('new', 'k'))
        self.assertEqual(come(schema, [made('a', actions=swap)], ('insert', 't', (0, 1)), empty), [('done', (1, 1))])
        twice = turn('v', 1) + turn('v', 0)
        self.assertEqual(come(schema, [made('a', actions=twice)], INSERT, empty), [('done', (0, 0))])
        for ends, told_one in ((SKIP, ('passed', None)), (REFUSE, ('refused', None))):
            for other in (SKIP, REFUSE, turn('v', 1)):
                self.assertEqual(come(schema, [made('a', actions=ends + other)], INSERT, empty), [told_one])
            self.assertEqual(come(schema, [made('a', actions=turn('v', 1) + ends)], INSERT, empty), [told_one])

    def test_nothing_more_behind_skip_and_refuse(self):
        rules = [made('a', actions=SKIP), made('b')]
        self.assertEqual(come(small(), rules, INSERT, small().empty), [('passed', None), ('refused', None)])
        self.assertEqual(come(small(), rules, INSERT, small().empty, [('a', 'b')]), [('passed', None)])
        self.assertEqual(come(small(), rules, INSERT, small().empty, [('b', 'a')]), [('refused', None)])

    def test_terms_of_old_and_new_as_turned_so_far(self):
        update = ('update', 't', (), (('k', 1), ('v', 1)))
        database = (((0, 0),), ())
        self.assertEqual(come(small(), [made('a', 'update', actions=turn('v', ('old', 'v')))], update, database),
                         [('done', (1, 0))])
        actions = turn('v', ('old', 'k')) + turn('k', ('new', 'v'))
        self.assertEqual(come(small(), [made('a', 'update', actions=actions)], update, database), [('done', (0, 0))])
        rules = [made('a', 'update', actions=turn('v', 0)),
                 made('b', 'update', is_value('new', 'v', 0), turn('k', ('old', 'k')))]
        self.assertEqual(come(small(), rules, update, database), [('done', (0, 0)), ('done', (1, 0))])
        self.assertEqual(come(small(), rules, update, database, [('a', 'b')]), [('done', (0, 0))])
        self.assertEqual(come(small(), rules, update, database, [('b', 'a')]), [('done', (1, 0))])

    def test_each_item_once_and_ascending(self):
        rules = [made('z', actions=turn('v', 1)), made('y', actions=turn('v', 0)), made('x', actions=turn('k', 1))]
        self.assertEqual(come(small(), rules, INSERT, small().empty), [('done', (1, 0)), ('done', (1, 1))])
        rules.append(made('w', condition=is_value('new', 'k', 1), actions=SKIP))
        rules.append(made('v', condition=is_value('new', 'v', 1)))
        self.assertEqual(come(small(), rules, INSERT, small().empty),
                         [('done', (1, 0)), ('done', (1, 1)), ('passed', None), ('refused', None)])

    def test_each_rule_has_one_turn(self):
        step = [made('a' * (at + 1), condition=is_value('new', 'x', at), actions=turn('x', at + 1), table='b')
                for at in range(3)]
        found = come(large(), step, ('insert', 'b', (0, 0, 0)), large().empty)
        self.assertEqual(found, [('done', (at, 0, 0)) for at in (1, 2, 3)])
        found = come(large(), step, ('insert', 'b', (0, 0, 0)), large().empty, [('aa', 'a')])
        self.assertEqual(found, [('done', (1, 0, 0))])
        flip = made('f', condition=is_value('new', 'v', 0), actions=turn('v', 1))
        back = made('g', condition=is_value('new', 'v', 1), actions=turn('v', 0))
        self.assertEqual(come(small(), [flip, back], INSERT, small().empty), [('done', (0, 0)), ('done', (0, 1))])
        self.assertEqual(come(small(), [flip, back], INSERT, small().empty, [('f', 'g')]), [('done', (0, 0))])

    def test_a_rule_that_does_not_fire_may_have_its_turn_first(self):
        rules = [made('a', condition=is_value('new', 'v', 1)), made('b', actions=turn('v', 1))]
        self.assertEqual(come(small(), rules, INSERT, small().empty), [('done', (0, 1)), ('refused', None)])
        self.assertEqual(come(small(), rules, INSERT, small().empty, [('a', 'b')]), [('done', (0, 1))])
        self.assertEqual(come(small(), rules, INSERT, small().empty, [('b', 'a')]), [('refused', None)])

    def test_an_order_through_a_rule_that_never_acts(self):
        idle = made('m', condition=(('same', 0, 1),))
        rules = [made('a', condition=is_value('new', 'v', 1)), idle, made('b', actions=turn('v', 1))]
        self.assertEqual(come(small(), rules, INSERT, small().empty, [('a', 'm'), ('m', 'b')]), [('done', (0, 1))])
        self.assertEqual(come(small(), rules, INSERT, small().empty, [('b', 'm'), ('m', 'a')]), [('refused', None)])
        found = come(small(), rules, INSERT, small().empty, [('a', 'm')])
        self.assertEqual(found, [('done', (0, 1)), ('refused', None)])

    def test_columns_by_the_values_as_turned_so_far(self):
        database = (((0, 0),), ())
        watch = made('w', 'update', columns=('v',))
        for value in (0, 1):
            update = ('update', 't', (), (('v', value),))
            wanted = [('refused', None)] if value else [('done', (0, 0))]
            self.assertEqual(come(small(), [watch], update, database), wanted)
        moved = made('m', 'update', actions=turn('v', 1))
        update = ('update', 't', (), (('k', 1),))
        self.assertEqual(come(small(), [watch, moved], update, database), [('done', (1, 1)), ('refused', None)])
        self.assertEqual(come(small(), [watch, moved], update, database, [('m', 'w')]), [('refused', None)])
        undone = made('u', 'update', actions=turn('v', ('old', 'v')))
        update = ('update', 't', (), (('v', 1),))
        self.assertEqual(come(small(), [watch, undone], update, database, [('u', 'w')]), [('done', (0, 0))])
        both = made('w', 'update', columns=('k', 'v'))
        self.assertEqual(come(small(), [both], ('update', 't', (), (('k', 1),)), database), [('refused', None)])
        self.assertEqual(come(small(), [both], ('update', 't', (), (('k', 0),)), database), [('done', (0, 0))])

    def test_no_columns_count_in_any_case(self):
        update = ('update', 't', (), (('v', 0),))
        self.assertEqual(come(small(), [made('w', 'update')], update, (((0, 0),), ())), [('refused', None)])

    def test_conditions_with_the_database_ahead_of_the_statement(self):
        seen = made('s', condition=(('some', 't', (('k', ('new', 'k')),)),), actions=SKIP)
        self.assertEqual(come(small(), [seen], INSERT, small().empty), [('done', (0, 0))])
        self.assertEqual(come(small(), [seen], INSERT, (((0, 1),), ())), [('passed', None)])
        gone = made('g', 'delete', (('some', 't', (('k', ('old', 'k')),)),), SKIP)
        self.assertEqual(come(small(), [gone], ('delete', 't', ()), (((0, 1),), ())), [('passed', None)])

    def test_deletes(self):
        rules = [made('a', 'delete', is_value('old', 'v', 1), SKIP), made('b', 'delete', is_value('old', 'k', 1))]
        for row, wanted in (((0, 0), [('done', None)]), ((0, 1), [('passed', None)]), ((1, 0), [('refused', None)]),
                            ((1, 1), [('passed', None), ('refused', None)])):
            self.assertEqual(come(small(), rules, ('delete', 't', ()), ((row,), ())), wanted)

    def test_twelve_rules_without_an_order(self):
        rules = []
        for at, (column, value) in enumerate(itertools.product('xyz', range(4))):
            term = ('new', 'yzx'['xyz'.index(column)])
            rules.append(made('abcdefghijkl'[at], condition=(('same', term, value),), actions=turn(column, (value + 1) % 4),
                              table='b'))
        found = come(large(), rules, ('insert', 'b', (0, 0, 0)), large().empty)
        self.assertEqual(found, sorted(set(found)))
        line = [('abcdefghijkl'[at], 'abcdefghijkl'[at + 1]) for at in range(11)]
        last = come(large(), rules, ('insert', 'b', (0, 0, 0)), large().empty, line)
        self.assertEqual(len(last), 1)
        self.assertIn(last[0], found)

    def test_twelve_rules_that_turn_towards_every_row(self):
        rules = [made('abcdefghijkl'[at], actions=turn('xyz'[at // 4], at % 4), table='b') for at in range(12)]
        found = come(large(), rules, ('insert', 'b', (0, 0, 0)), large().empty)
        self.assertEqual(found, [('done', row) for row in large().rows('b')])


class ChangesTest(unittest.TestCase):
    def test_no_rule(self):
        schema = small()
        none = Rules(schema, [])
        database = (((0, 0), (1, 0)), ())
        cases = [
            (('insert', 't', (0, 1)), [(None, None)]),
            (('insert', 'u', (0,)), [(((None, (0,)),), (database[0], ((0,),)))]),
            (('offer', 't', (0, 1)), [((), database)]),
            (('offer', 'u', (1,)), [(((None, (1,)),), (database[0], ((1,),)))]),
            (('delete', 'u', ()), [((), database)]),
            (('delete', 't', (('k', 0),)), [((((0, 0), None),), (((1, 0),), ()))]),
            (('delete', 't', ()), [((((0, 0), None), ((1, 0), None)), ((), ()))]),
            (('update', 't', (), (('v', 1),)), [((((0, 0), (0, 1)), ((1, 0), (1, 1))), (((0, 1), (1, 1)), ()))]),
            (('update', 't', (), (('v', 0),)), [((), database)]),
            (('update', 't', (('k', 0),), (('k', 1),)), [(None, None)]),
            (('update', 't', (), (('k', 1),)), [(None, None)]),
        ]
        for statement, wanted in cases:
            self.assertEqual(changes(none, statement, database), wanted)

    def test_a_refusal_ahead_of_the_statement(self):
        schema = small()
        lock = made('lock', level='statement', condition=(('some', 'u', ()),))
        rules = Rules(schema, [lock, made('skip', actions=SKIP)])
        self.assertEqual(changes(rules, INSERT, ((), ((0,),))), [(None, None)])
        self.assertEqual(changes(rules, ('offer', 't', (0, 0)), ((), ((0,),))), [(None, None)])
        self.assertEqual(changes(rules, INSERT, schema.empty), [((), schema.empty)])
        self.assertEqual(changes(rules, ('insert', 'u', (1,)), ((), ((0,),))), [(((None, (1,)),), ((), ((0,), (1,))))])
        self.assertEqual(changes(rules, ('delete', 't', ()), ((), ((0,),))), [((), ((), ((0,),)))])
        nothing_hit = made('lock', 'delete', level='statement')
        self.assertEqual(changes(Rules(schema, [nothing_hit]), ('delete', 't', ()), schema.empty), [(None, None)])

    def test_a_refusal_ahead_of_an_update_by_the_columns_of_its_sets(self):
        schema, database = small(), (((0, 0),), ())
        same = [((), database)]
        for columns, sets, refused in [((), ('k',), True), (('k',), ('k',), True), (('k',), ('v',), False),
                                       (('v',), ('k', 'v'), True), (('k', 'v'), ('v',), True), (('v',), ('k',), False)]:
            rule = made('lock', 'update', columns=columns, level='statement')
            statement = ('update', 't', (), tuple([(column, 0) for column in sets]))
            wanted = [(None, None)] if refused else same
            self.assertEqual(changes(Rules(schema, [rule]), statement, database), wanted)
            none_hit = ('update', 't', (('v', 1),), statement[3])
            self.assertEqual(changes(Rules(schema, [rule]), none_hit, database), wanted)

    def test_any_of_several_rules_ahead_of_the_statement_refuses(self):
        first = made('first', level='statement', condition=(('some', 'u', (('k', 0),)),))
        second = made('second', level='statement', condition=(('some', 'u', (('k', 1),)),))
        rules = Rules(small(), [first, second])
        for rows in ((), ((0,),), ((1,),), ((0,), (1,))):
            found = changes(rules, INSERT, ((), rows))
            self.assertEqual(found == [(None, None)], rows != ())

    def test_passed_over_hits_are_left_out(self):
        rules = Rules(small(), [made('keep', 'delete', is_value('old', 'v', 1), SKIP)])
        database = (((0, 1), (1, 0)), ())
        self.assertEqual(changes(rules, ('delete', 't', ()), database), [((((1, 0), None),), (((0, 1),), ()))])
        rules = Rules(small(), [made('keep', 'update', is_value('old', 'k', 0), SKIP)])
        self.assertEqual(changes(rules, ('update', 't', (), (('v', 1),)), (((0, 0), (1, 0)), ())),
                         [((((1, 0), (1, 1)),), (((0, 0), (1, 1)), ()))])
        rules = Rules(small(), [made('keep', actions=SKIP)])
        self.assertEqual(changes(rules, INSERT, (((0, 0),), ())), [((), (((0, 0),), ()))])

    def test_updates_turned_back_are_left_out(self):
        rules = Rules(small(), [made('back', 'update', is_value('old', 'k', 0), turn('v', ('old', 'v')))])
        database = (((0, 0), (1, 0)), ())
        self.assertEqual(changes(rules, ('update', 't', (), (('v', 1),)), database),
                         [((((1, 0), (1, 1)),), (((0, 0), (1, 1)), ()))])

    def test_updates_that_change_nothing_keep_their_keys(self):
        # The row that an update leaves as it is stays, and its key with it.
        rules = Rules(small(), [made('aim', 'update', is_value('old', 'k', 1), turn('k', 0))])
        self.assertEqual(changes(rules, ('update', 't', (), (('v', 0),)), (((0, 0), (1, 0)), ())), [(None, None)])

    def test_keys_as_turned(self):
        aim = made('aim', actions=turn('k', 0))
        rules = Rules(small(), [aim])
        database = (((0, 0),), ())
        self.assertEqual(changes(rules, ('insert', 't', (1, 1)), database), [(None, None)])
        self.assertEqual(changes(rules, ('offer', 't', (1, 1)), database), [((), database)])
        away = made('away', actions=turn('k', 1))
        rules = Rules(small(), [away])
        for kind in ('insert', 'offer'):
            self.assertEqual(changes(rules, (kind, 't', (0, 1)), database), [(((None, (1, 1)),), (((0, 0), (1, 1)), ()))])
        both = Rules(small(), [aim, away])
        self.assertEqual(changes(both, ('insert', 't', (0, 1)), database),
                         [(None, None), (((None, (1, 1)),), (((0, 0), (1, 1)), ()))])
        self.assertEqual(changes(both, ('offer', 't', (0, 1)), database),
                         [((), database), (((None, (1, 1)),), (((0, 0), (1, 1)), ()))])

    def test_two_hits_that_come_to_one_key(self):
        database = (((0, 0), (1, 0)), ())
        one_key = made('k', 'update', actions=turn('k', 1))
        update = ('update', 't', (), (('v', 1),))
        self.assertEqual(changes(Rules(small(), [one_key]), update, database), [(None, None)])
        swap = [made('a', 'update', is_value('old', 'k', 0), turn('k', 1)),
                made('b', 'update', is_value('old', 'k', 1), turn('k', 0))]
        self.assertEqual(changes(Rules(small(), swap), update, database),
                         [((((0, 0), (1, 1)), ((1, 0), (0, 1))), (((0, 1), (1, 1)), ()))])

    def test_all_that_can_come_of_several_hits(self):
        rules = Rules(small(), [made('a', 'delete', actions=SKIP), made('b', 'delete', is_value('old', 'v', 1))])
        database = (((0, 1), (1, 0)), ())
        self.assertEqual(changes(rules, ('delete', 't', ()), database), [(None, None), ((), database)])
        rules = Rules(small(), [made('a', 'update', actions=turn('v', 1)), made('b', 'update', actions=turn('v', 0))])
        found = changes(rules, ('update', 't', (), (('v', 1),)), (((0, 0), (1, 0)), ()))
        self.assertEqual(found, [
            ((), (((0, 0), (1, 0)), ())),
            ((((0, 0), (0, 1)),), (((0, 1), (1, 0)), ())),
            ((((0, 0), (0, 1)), ((1, 0), (1, 1))), (((0, 1), (1, 1)), ())),
            ((((1, 0), (1, 1)),), (((0, 0), (1, 1)), ())),
        ])

    def test_the_database_is_one_of_the_schema(self):
        schema = large()
        rules = Rules(schema, [made('a', 'update', actions=turn('x', ('new', 'z')), table='a'),
                               made('b', 'update', actions=turn('y', ('old', 'x')), table='a')])
        database = (((0, 0, 1), (0, 1, 2), (3, 3, 3)), ((1, 1, 1),), ((0, 0),))
        for changed, behind in changes(rules, ('update', 'a', (), (('z', 0),)), database)[1:]:
            self.assertIs(schema.is_database(behind), True)
            self.assertEqual(behind[1:], database[1:])
            self.assertEqual(list(changed), sorted(changed))


def is_row(x, y, z):
    """A condition on the old row of b."""
    return is_value('old', 'x', x) + is_value('old', 'y', y) + is_value('old', 'z', z)


class TooManyTest(unittest.TestCase):
    def toss(self, table='b'):
        """Two rules, by which each delete is passed over or refused."""
        return [made('a', 'delete', actions=SKIP, table=table), made('b', 'delete', table=table)]

    def rows(self, many):
        """A database of large with so many rows in b."""
        return ((), tuple(large().rows('b')[:many]), ())

    def test_two_outcomes_each(self):
        rules = Rules(large(), self.toss())
        delete = ('delete', 'b', ())
        self.assertEqual(changes(rules, delete, self.rows(11)), [(None, None), ((), self.rows(11))])
        for many in (12, 13, 64):
            self.assertEqual(told(changes, rules, delete, self.rows(many)), ('TooMany', {'limit': 4000}))

    def any_value(self, column, condition=()):
        """Rules by which a column of b is turned to each value, in any order."""
        return [made(column + 'abcd'[value], 'update', condition, turn(column, value), table='b') for value in range(4)]

    def test_exactly_four_thousand(self):
        # With x 3 there are five outcomes, otherwise two: 5 ** 3 * 2 ** 5 are 4,000.
        rules = self.any_value('z', is_value('old', 'x', 3))
        rules.append(made('skip', 'update', is_value('new', 'z', 0), SKIP, table='b'))
        rules.append(made('stop', 'update', (('other', ('old', 'x'), 3),), table='b'))
        update = ('update', 'b', (), (('z', 0),))
        for many in (5, 6):
            rows = [(0, 0, z) for z in range(4)] + [(1, 0, z) for z in range(many - 4)] + [(3, y, 1) for y in range(3)]
            database = ((), tuple(rows), ())
            hits = oracle.hits(large(), update, database)
            lengths = [len(turned(Rules(large(), rules), update, database, hit)) for hit in hits]
            self.assertEqual(lengths, [2] * many + [5] * 3)
            outcome = told(changes, Rules(large(), rules), update, database)
            if many == 5:
                # Of the refused ones there is one item; z stays 1 if a hit is passed over.
                self.assertEqual(len(outcome[1]), 1 + 4 ** 3)
                self.assertEqual(outcome[1][:2], [(None, None), ((), database)])
            else:
                self.assertEqual(outcome, ('TooMany', {'limit': 4000}))

    def test_two_hits_with_many_outcomes(self):
        free = self.any_value('x') + self.any_value('y') + self.any_value('z')
        update = ('update', 'b', (), (('z', 0),))
        self.assertEqual(told(changes, Rules(large(), free), update, self.rows(2)), ('TooMany', {'limit': 4000}))
        self.assertEqual(len(changes(Rules(large(), free), update, self.rows(1))), 64)
        # 48 rows for each of two hits, but not the same one for both.
        found = changes(Rules(large(), free[:11]), update, self.rows(2))
        self.assertEqual([len(found), found[0]], [48 * 48 - 48 + 1, (None, None)])

    def test_also_if_keys_would_refuse_all(self):
        rules = Rules(large(), self.any_value('z')[:3])
        update = ('update', 'b', (), (('x', 0),))
        # Four rows go to three keys, with three outcomes each.
        eight = tuple([(0, 0, z) for z in range(4)] + [(0, 1, z) for z in range(4)])
        self.assertEqual(changes(rules, update, ((), eight[:7], ())), [(None, None)])
        self.assertEqual(told(changes, rules, update, ((), eight, ())), ('TooMany', {'limit': 4000}))

    def test_also_if_a_rule_refuses_the_first_hit(self):
        first = made('no', 'delete', is_row(0, 0, 0), table='b')
        rules = Rules(large(), self.toss() + [first], [('no', 'a'), ('no', 'b')])
        self.assertEqual(changes(rules, ('delete', 'b', ()), self.rows(12)), [(None, None)])
        self.assertEqual(told(changes, rules, ('delete', 'b', ()), self.rows(13)), ('TooMany', {'limit': 4000}))

    def test_not_if_the_statement_is_refused_ahead(self):
        rules = Rules(large(), self.toss() + [made('no', 'delete', table='b', level='statement')])
        self.assertEqual(changes(rules, ('delete', 'b', ()), self.rows(64)), [(None, None)])

    def test_many_hits_with_one_outcome_each(self):
        rules = Rules(large(), [made('a', 'delete', actions=SKIP, condition=is_value('old', 'x', 0), table='b')])
        database = self.rows(64)
        (changed, behind), = changes(rules, ('delete', 'b', ()), database)
        self.assertEqual([len(changed), behind], [48, ((), database[1][:16], ())])


class ByTryingAllOrdersTest(unittest.TestCase):
    def test_turned(self):
        seen = set()
        for seed in range(400):
            rules, statement, database = Chance(seed).case()
            for hit in oracle.hits(rules.schema, statement, database):
                wanted = oracle.turned(rules, statement, database, hit)
                self.assertEqual(turned(rules, statement, database, hit), wanted)
                seen.add(len(wanted))
        self.assertTrue({1, 2, 3} <= seen)

    def test_changes(self):
        seen = {}
        for seed in range(400, 1200):
            rules, statement, database = Chance(seed).case()
            wanted = oracle.changes(rules, statement, database)
            self.assertEqual(changes(rules, statement, database), wanted)
            seen[statement[0], len(wanted) > 1] = True
        self.assertEqual(len(seen), 8)

    def test_more_pairs_leave_the_same_or_less(self):
        for seed in range(150):
            chance = Chance(seed)
            rules, statement, database = chance.case()
            line = list(rules.names)
            chance.random.shuffle(line)
            competing = rules.competing()
            found = changes(rules, statement, database)
            for hit in oracle.hits(rules.schema, statement, database):
                whole = turned(rules, statement, database, hit)
                more = [pair for pair in itertools.combinations(line, 2) if pair in competing]
                total = Rules(rules.schema, rules.rules, more)
                self.assertEqual(len(turned(total, statement, database, hit)), 1)
                self.assertEqual(len(changes(total, statement, database)), 1)
                if told(rules.ordered, more[:2])[0] == 'returned':
                    ordered = rules.ordered(more[:2])
                    self.assertTrue(set(turned(ordered, statement, database, hit)) <= set(whole))
                    self.assertTrue(set(changes(ordered, statement, database)) <= set(found))

    def test_the_order_of_the_rules_means_nothing(self):
        for seed in range(100):
            rules, statement, database = Chance(seed).case()
            other = Rules(rules.schema, rules.rules[::-1], rules.pairs)
            self.assertEqual(changes(rules, statement, database), changes(other, statement, database))

    def test_asked_twice(self):
        for seed in range(50):
            rules, statement, database = Chance(seed).case()
            kept = Rules(rules.schema, rules.rules, rules.pairs)
            first = changes(rules, statement, database)
            again = list(first)
            first.clear()
            self.assertEqual(changes(rules, statement, database), again)
            for hit in oracle.hits(rules.schema, statement, database):
                first = turned(rules, statement, database, hit)
                again = list(first)
                first.clear()
                self.assertEqual(turned(rules, statement, database, hit), again)
            self.assertEqual(rules, kept)


if __name__ == '__main__':
    unittest.main()
