"""[50], [51]: what comes of one call, by the ends of the calls within it."""

import itertools
import unittest

from firingrules.bodies import body
from firingrules.ruleset import Rules
from firingrules.schemas import Schema
from tests import naive
from tests.chance import Chance
from tests.support import ascending, made, offer, small, told

NEW = ('insert', 't', (0, 1))


def come(rules, statement, database, table=None, pairs=()):
    """What body tells of some rules of the small schema."""
    return body(Rules(small(), rules, pairs), statement, database, {} if table is None else table)


def all_ends(rules, statement, database, pairs=()):
    """What body tells when all calls within have the ends that they have without other rules."""
    table = {}
    for _ in range(20):
        found = body(Rules(small(), rules, pairs), statement, database, table)
        for call in found[1]:
            table[call] = body(Rules(small(), []), call[0], call[1], {})[0]
    return found


class OneCallTest(unittest.TestCase):
    def test_no_rules(self):
        empty = small().empty
        self.assertEqual(come([], NEW, empty), ([(((0, 1),), ())], [], []))
        self.assertEqual(come([], NEW, (((0, 0),), ())), ([None], [], []))
        self.assertEqual(come([], ('offer', 't', (0, 1)), (((0, 0),), ())), ([(((0, 0),), ())], [], []))
        self.assertEqual(come([], ('delete', 't', ()), (((0, 0), (1, 1)), ((0,),))), ([((), ((0,),))], [], []))
        self.assertEqual(come([], ('update', 't', (), (('k', 0),)), (((0, 0), (1, 1)), ())), ([None], [], []))

    def test_refused_ahead_of_the_statement(self):
        lock = made('lock', when='ahead', level='statement', condition=(('some', 'u', ()),))
        turn = made('turn', when='ahead', actions=[('turn', 'v', 0)])
        fire = made('fire', actions=[offer(0)])
        self.assertEqual(come([lock, turn, fire], NEW, ((), ((1,),))), ([None], [], []))
        self.assertEqual(come([lock, turn, fire], NEW, small().empty),
                         ([], [(offer(0), (((0, 0),), ()))], ['fire', 'turn']))
        update = ('update', 't', (), (('v', 1),))
        for columns, refused in [((), True), (('v',), True), (('k', 'v'), True), (('k',), False)]:
            lock = made('lock', 'update', columns=columns, when='ahead', level='statement')
            self.assertEqual(come([lock], update, small().empty)[0] == [None], refused)

    def test_refused_ahead_of_a_row(self):
        no = made('no', 'delete', when='ahead', condition=(('same', ('old', 'k'), 1),))
        back = made('back', 'delete', actions=[offer(0)])
        database = (((0, 0), (1, 0)), ())
        self.assertEqual(come([no, back], ('delete', 't', ()), database), ([None], [], ['no']))
        self.assertEqual(come([no, back], ('delete', 't', (('k', 0),)), database),
                         ([], [(offer(0), (((1, 0),), ()))], ['back']))

    def test_behind_a_refusal_there_are_no_more_places(self):
        first = made('first', 'delete', when='ahead', condition=(('same', ('old', 'k'), 0),))
        second = made('second', 'delete', [('skip',)], when='ahead', condition=(('same', ('old', 'k'), 1),))
        database = (((0, 0), (1, 0)), ())
        self.assertEqual(come([first, second], ('delete', 't', ()), database), ([None], [], ['first']))
        passing = made('passing', 'delete', [('skip',)], when='ahead', condition=(('same', ('old', 'k'), 0),))
        self.assertEqual(come([first, second, passing], ('delete', 't', ()), database),
                         ([None, database], [], ['first', 'passing', 'second']))

    def test_refused_by_keys(self):
        aim = made('aim', when='ahead', actions=[('turn', 'k', 0)])
        self.assertEqual(come([aim, made('fire')], ('insert', 't', (1, 1)), (((0, 0),), ())), ([None], [], ['aim']))
        self.assertEqual(come([aim, made('fire')], ('offer', 't', (1, 1)), (((0, 0),), ())),
                         ([(((0, 0),), ())], [], ['aim']))

    def test_calls_that_change_nothing(self):
        rows = [made('a', 'update'), made('b', 'delete'), made('c')]
        once = [made('d', 'update', [offer(0)], level='statement'), made('e', 'delete', [offer(0)], level='statement'),
                made('f', 'insert', [offer(0)], level='statement')]
        database = (((0, 0),), ())
        for statement, name in [(('update', 't', (), (('v', 0),)), 'd'), (('update', 't', (('k', 1),), (('v', 0),)), 'd'),
                                (('delete', 't', (('k', 1),)), 'e'), (('offer', 't', (0, 1)), 'f')]:
            self.assertEqual(come(rows, statement, database), ([database], [], []))
            self.assertEqual(come(rows + once, statement, database), ([], [(offer(0), database)], [name]))

    def test_places_behind_rows_in_ascending_order(self):
        clear = made('clear', 'delete', [('delete', 'u', (('k', ('old', 'k')),))])
        lock = made('lock', 'delete', condition=(('some', 'u', (('k', 1),)), ('same', ('old', 'k'), 0)))
        late = made('late', 'delete', condition=(('some', 'u', (('k', 0),)), ('same', ('old', 'k'), 1)))
        database = (((0, 0), (1, 0)), ((0,), (1,)))
        delete = ('delete', 't', ())
        self.assertEqual(all_ends([clear, lock], delete, database)[0], [None])
        found = all_ends([clear, late], delete, database)
        self.assertEqual(found[0], [((), ())])
        self.assertEqual(found[2], ['clear'])

    def test_columns_by_old_and_new(self):
        database = (((0, 0), (1, 1)), ())
        for columns, fired in [((), ['w']), (('v',), ['w']), (('k',), []), (('k', 'v'), ['w'])]:
            found = come([made('w', 'update', columns=columns)], ('update', 't', (), (('v', 1),)), database)
            self.assertEqual(found[2], fired)
        found = come([made('w', 'update', columns=('v',))], ('update', 't', (('k', 1),), (('v', 1),)), database)
        self.assertEqual(found, ([database], [], []))
        turned = made('turned', 'update', [('turn', 'v', ('old', 'v'))], when='ahead')
        found = come([made('w', 'update', columns=('v',)), turned], ('update', 't', (), (('v', 1),)), database)
        self.assertEqual(found, ([database], [], ['turned']))

    def test_columns_of_the_statement_by_its_sets(self):
        for columns, fired in [((), ['w']), (('v',), ['w']), (('k',), []), (('k', 'v'), ['w'])]:
            rule = made('w', 'update', columns=columns, level='statement')
            found = come([rule], ('update', 't', (('k', 1),), (('v', 1),)), small().empty)
            self.assertEqual(found, ([None] if fired else [small().empty], [], fired))
        turned = made('turned', 'update', [('turn', 'k', 1)], when='ahead')
        rule = made('w', 'update', columns=('k',), level='statement')
        found = come([rule, turned], ('update', 't', (), (('v', 1),)), (((0, 0),), ()))
        self.assertEqual(found, ([(((1, 1),), ())], [], ['turned']))

    def test_rules_fire_at_a_row_that_is_gone(self):
        gone = made('gone', actions=[('delete', 't', (('k', ('new', 'k')),))])
        mark = made('mark', actions=[offer(('new', 'v'))])
        found = all_ends([gone, mark], NEW, small().empty, [('gone', 'mark')])
        self.assertEqual(found[0], [((), ((1,),))])
        self.assertEqual(found[2], ['gone', 'mark'])
        wipe = made('wipe', 'update', [('delete', 't', ())])
        found = all_ends([wipe, made('mark', 'update', [offer(('old', 'k'))])], ('update', 't', (), (('v', 1),)),
                         (((0, 0), (1, 0)), ()))
        self.assertEqual(found[0], [((), ((0,), (1,)))])

    def test_the_place_behind_the_statement_comes_last(self):
        row = made('row', actions=[offer(0)])
        once = made('once', level='statement', condition=(('some', 'u', ()),))
        self.assertEqual(all_ends([once, row], NEW, small().empty)[0], [None])

    def test_conditions_with_the_database_as_it_is_then(self):
        there = made('there', condition=(('no', 't', (('k', 0), ('v', 1))),))
        self.assertEqual(come([there], NEW, small().empty)[0], [(((0, 1),), ())])
        other = made('other', 'update', condition=(('some', 't', (('k', 0), ('v', 0))),))
        self.assertEqual(come([other], ('update', 't', (('k', 0),), (('v', 1),)), (((0, 0),), ()))[0], [(((0, 1),), ())])

    def test_rules_of_other_tables_events_and_times_do_not_stand_there(self):
        rules = [made('a', 'delete'), made('b', 'update'), made('c', table='u'), made('d', when='late'),
                 made('e', 'delete', level='statement')]
        self.assertEqual(come(rules, NEW, small().empty), ([(((0, 1),), ())], [], []))


class TableTest(unittest.TestCase):
    def setUp(self):
        self.call = (offer(0), (((0, 1),), ()))
        self.rules = [made('one', actions=[offer(0)])]

    def test_a_call_that_is_not_in_the_table(self):
        self.assertEqual(come(self.rules, NEW, small().empty, {}), ([], [self.call], ['one']))
        other = (offer(1), self.call[1])
        self.assertEqual(come(self.rules, NEW, small().empty, {other: [small().empty]}), ([], [self.call], ['one']))

    def test_a_call_with_no_ends(self):
        self.assertEqual(come(self.rules, NEW, small().empty, {self.call: []}), ([], [self.call], ['one']))

    def test_a_call_with_none(self):
        self.assertEqual(come(self.rules, NEW, small().empty, {self.call: [None]}), ([None], [self.call], ['one']))

    def test_a_call_with_several_ends_that_are_not_its_own(self):
        ends = [((), ((1,),)), None, (((1, 1),), ()), ((), ())]
        found = come(self.rules, NEW, small().empty, {self.call: ends})
        self.assertEqual(found, ([None, ((), ()), ((), ((1,),)), (((1, 1),), ())], [self.call], ['one']))
        self.assertEqual(come(self.rules, NEW, small().empty, {self.call: ends + ends})[0], found[0])

    def test_runs_go_on_with_each_end(self):
        two = made('two', condition=(('some', 'u', (('k', 1),)),))
        ends = [((), ((1,),)), ((), ())]
        found = come(self.rules + [two], NEW, small().empty, {self.call: ends}, [('one', 'two')])
        self.assertEqual(found, ([None, ((), ())], [self.call], ['one', 'two']))

    def test_actions_one_after_another(self):
        rule = made('one', actions=[offer(0), ('delete', 't', ()), ('refuse',)])
        second = (('delete', 't', ()), (((0, 0),), ()))
        self.assertEqual(come([rule], NEW, small().empty, {}), ([], [self.call], ['one']))
        table = {self.call: [second[1], None]}
        self.assertEqual(come([rule], NEW, small().empty, table), ([None], [second, self.call], ['one']))
        table[second] = [small().empty]
        self.assertEqual(come([rule], NEW, small().empty, table), ([None], [second, self.call], ['one']))
        table[self.call] = [second[1]]
        self.assertEqual(come([rule], NEW, small().empty, table), ([None], [second, self.call], ['one']))
        table[second] = []
        self.assertEqual(come([rule], NEW, small().empty, table), ([], [second, self.call], ['one']))
        first = made('one', actions=[('refuse',), offer(0)])
        self.assertEqual(come([first], NEW, small().empty, {}), ([None], [], ['one']))

    def test_terms_of_actions(self):
        rule = made('one', 'update', [('update', 't', (('k', ('new', 'k')),), (('v', ('old', 'v')),))])
        found = come([rule], ('update', 't', (), (('v', 1),)), (((1, 0),), ()))
        self.assertEqual(found[1], [(('update', 't', (('k', 1),), (('v', 0),)), (((1, 1),), ()))])

    def test_the_table_stays_and_answers_are_new(self):
        table = {self.call: [((), ()), None]}
        kept = {self.call: [((), ()), None]}
        first = come(self.rules, NEW, small().empty, table)
        self.assertEqual(table, kept)
        again = tuple([list(part) for part in first])
        for part in first:
            part.append('more')
        self.assertEqual(come(self.rules, NEW, small().empty, table), again)
        table[self.call].append(((), ((1,),)))
        self.assertNotEqual(come(self.rules, NEW, small().empty, table), again)


class OrdersTest(unittest.TestCase):
    def test_every_order_that_the_order_allows(self):
        # Each rule leaves its mark in u and in one row of w: the last one tells.
        schema = Schema(4, [('t', ('k',), 1), ('w', ('k', 'v'), 1)])
        rules = [made(name, actions=[('update', 'w', (), (('v', at),))]) for at, name in enumerate('abcd')]
        start = ((), ((0, 0),))
        for pairs in [(), [('a', 'b')], [('a', 'b'), ('b', 'c')], [('d', 'a'), ('d', 'b'), ('d', 'c')],
                      [('a', 'd'), ('b', 'd'), ('c', 'd')], [('c', 'a'), ('b', 'd')], [('a', 'b'), ('b', 'c'), ('c', 'd')]]:
            free = Rules(schema, rules, pairs)
            table = {}
            for value, other in itertools.product(range(4), range(4)):
                call = (('update', 'w', (), (('v', value),)), (((0,),), ((0, other),)))
                table[call] = [(((0,),), ((0, value),))]
            lines = [line for line in itertools.permutations('abcd')
                     if all([(b, a) not in free.pairs for a, b in itertools.combinations(line, 2)])]
            ends = sorted({(((0,),), ((0, 'abcd'.index(line[3])),)) for line in lines})
            calls = set()
            for line in lines:
                value = 0
                for name in line:
                    calls.add((('update', 'w', (), (('v', 'abcd'.index(name)),)), (((0,),), ((0, value),))))
                    value = 'abcd'.index(name)
            self.assertEqual(body(free, ('insert', 't', (0,)), start, table), (ends, sorted(calls), list('abcd')))

    def test_rules_that_do_not_stand_there_hold_up_none(self):
        rules = [made('a', 'update', columns=('k',)), made('b', 'update', [offer(0)], columns=('v',))]
        found = come(rules, ('update', 't', (), (('v', 1),)), (((0, 0),), ()), {}, [('a', 'b')])
        self.assertEqual(found, ([], [(offer(0), (((0, 1),), ()))], ['b']))

    def test_an_idle_rule_between(self):
        idle = made('m', condition=(('same', 0, 1),))
        one = made('a', actions=[offer(0)])
        two = made('z', condition=(('some', 'u', ()),))
        for pairs, wanted in [((), [None, (((0, 1),), ((0,),))]), ([('a', 'm'), ('m', 'z')], [None]),
                              ([('z', 'm'), ('m', 'a')], [(((0, 1),), ((0,),))])]:
            for line in itertools.permutations([idle, one, two]):
                self.assertEqual(all_ends(list(line), NEW, small().empty, pairs)[0], wanted)

    def test_a_rule_that_fires_but_leaves_all_as_it_is(self):
        # The order tells in which states it has its turn.
        again = made('m', actions=[offer(0)], condition=(('some', 'u', (('k', 0),)),))
        one = made('a', actions=[offer(0)])
        two = made('b', actions=[offer(1)])
        rows = ((0, 1),)
        seen = {(): [(rows, ((0,),)), (rows, ((0,), (1,)))], (('m', 'b'),): [(rows, ((0,),))],
                (('b', 'm'),): [(rows, ((0,), (1,)))], (('m', 'a'),): []}
        for pairs, states in seen.items():
            found = all_ends([one, two, again], NEW, small().empty, pairs)
            self.assertEqual(found[0], [(rows, ((0,), (1,)))])
            self.assertEqual(found[2], ['a', 'b', 'm'] if states else ['a', 'b'])
            others = [(rows, ()), (rows, ((1,),))]
            self.assertEqual([call for call in found[1] if call[0] == offer(0)],
                             sorted([(offer(0), state) for state in states + others]))

    def test_twelve_rules(self):
        rules = [made('abcdefghijkl'[at], actions=[offer(at % 2)]) for at in range(12)]
        rows = ((0, 1),)
        found = all_ends(rules, NEW, small().empty)
        self.assertEqual(found[0], [(rows, ((0,), (1,)))])
        self.assertEqual(found[2], list('abcdefghijkl'))
        self.assertEqual(len(found[1]), 8)

    def test_the_order_in_which_rules_and_keys_stand_means_nothing(self):
        for seed in range(80):
            chance = Chance(seed)
            chance.part(2)
            rules = chance.any_rules(4)
            statement, database = chance.any_statement(), chance.database()
            _, calls, _ = body(rules, statement, database, {})
            table = {call: [chance.database(), None, call[1]] for call in calls}
            other = {call: table[call][::-1] for call in calls[::-1]}
            turned = Rules(rules.schema, rules.rules[::-1], rules.pairs)
            self.assertEqual(body(rules, statement, database, table), body(turned, statement, database, other))


class TooManyTest(unittest.TestCase):
    def toss(self, *more):
        """Rules by which each delete of b is passed over or refused."""
        schema = Schema(4, [('b', ('x', 'y', 'z'), 3)])
        rules = [made('a', 'delete', [('skip',)], when='ahead', table='b'), made('b', 'delete', when='ahead', table='b')]
        return Rules(schema, rules + list(more))

    def test_as_changes(self):
        rules = self.toss()
        rows = tuple(rules.schema.rows('b'))
        delete = ('delete', 'b', ())
        self.assertEqual(body(rules, delete, (rows[:11],), {}), ([None, (rows[:11],)], [], ['a', 'b']))
        self.assertEqual(told(body, rules, delete, (rows[:12],), {}), ('TooMany', {'limit': 4000}))

    def test_not_if_it_is_refused_ahead_of_the_statement(self):
        rules = self.toss(made('c', 'delete', when='ahead', level='statement', table='b'))
        rows = tuple(rules.schema.rows('b'))
        self.assertEqual(body(rules, ('delete', 'b', ()), (rows,), {}), ([None], [], []))

    def test_many_places(self):
        rules = self.toss()
        rows = tuple(rules.schema.rows('b'))
        plain = Rules(rules.schema, [made('c', 'delete', condition=(('same', ('old', 'x'), 3),), table='b')])
        self.assertEqual(body(plain, ('delete', 'b', ()), (rows,), {}), ([None], [], ['c']))
        self.assertEqual(body(plain, ('delete', 'b', ()), (rows[:48],), {}), ([((),)], [], []))


class ByTryingAllChoicesTest(unittest.TestCase):
    def test_body(self):
        seen = {}
        for seed in range(900):
            chance = Chance(seed, Schema(2, [('t', ('k', 'v'), 1), ('u', ('a',), 1)]) if seed % 2 else None)
            chance.part(chance.random.randint(1, 2))
            rules = chance.any_rules(chance.random.randint(1, 5))
            statement, database = chance.any_statement(), chance.database()
            table = {}
            for _ in range(3):
                for call in body(rules, statement, database, table)[1]:
                    some = [None, database, call[1], chance.database(), chance.database()]
                    table[call] = [chance.random.choice(some) for _ in range(chance.random.choice([0, 1, 1, 1, 2, 2]))]
            for call in sorted(table):
                if chance.random.random() < 0.1:
                    del table[call]
            runs = naive.all_runs(rules, statement, database, ends=table)
            if runs is not None:
                ends = ascending({out[1] for out, _ in runs if out[0] == 'end'})
                calls = sorted({call for _, one in runs for call in one.calls})
                fired = sorted({name for _, one in runs for name, _ in one.fired})
                self.assertEqual(body(rules, statement, database, table), (ends, calls, fired), seed)
                seen[min(len(ends), 3), min(len(calls), 3)] = True
        self.assertTrue({(0, 1), (1, 0), (1, 1), (1, 2), (2, 1), (2, 2), (2, 3), (3, 3)} <= set(seen), seen)


if __name__ == '__main__':
    unittest.main()
