"""[50], [52], [53]: runs by the order of the rules and by turn lists, and their steps."""

import unittest

from firingrules.ruleset import Rules
from firingrules.runs import play, run, trace
from firingrules.schemas import Schema
from tests import naive
from tests.chance import Chance
from tests.support import made, offer, small, told
from tests.worlds import FIRST, counter, counting, idle, long_runs, wide

NEW = ('insert', 't', (0, 1))


def loops():
    """A rule whose call begins within itself."""
    return made('loop', 'delete', [('delete', 't', ())], level='statement')


DELETE = ('delete', 't', ())
NO_U = (('no', 'u', ()),)


class RunTest(unittest.TestCase):
    def test_no_turns(self):
        none = Rules(small(), [])
        self.assertEqual(run(none, NEW, small().empty), (((0, 1),), ()))
        self.assertIsNone(run(none, NEW, (((0, 0),), ())))
        self.assertEqual(run(none, DELETE, (((0, 0),), ((1,),)), limit=1), ((), ((1,),)))

    def test_the_first_rule_that_may(self):
        one, two = made('one', actions=[offer(0)], condition=NO_U), made('two', actions=[offer(1)], condition=NO_U)
        for rules, pairs, row in [([one, two], [], (0,)), ([two, one], [], (1,)), ([one, two], [('two', 'one')], (1,)),
                                  ([two, one], [('one', 'two')], (0,))]:
            self.assertEqual(run(Rules(small(), rules, pairs), NEW, small().empty), (((0, 1),), (row,)))
        three = made('three', actions=[offer(1)], condition=NO_U)
        rules = Rules(small(), [one, two, three], [('two', 'one')])
        self.assertEqual(run(rules, NEW, small().empty), (((0, 1),), ((1,),)))
        rules = Rules(small(), [three, one, two], [('two', 'three'), ('two', 'one')])
        self.assertEqual(run(rules, NEW, small().empty), (((0, 1),), ((1,),)))

    def test_the_first_rule_that_may_is_asked_again_behind_each_turn(self):
        # first waits for last; as soon as that has had its turn, it goes ahead of middle.
        first = made('first', actions=[offer(0)], condition=NO_U)
        middle = made('middle', actions=[offer(1)], condition=NO_U)
        last = made('last', condition=(('same', 0, 1),))
        rules = Rules(small(), [first, last, middle], [('last', 'first')])
        self.assertEqual(run(rules, NEW, small().empty), (((0, 1),), ((0,),)))

    def test_refusals_within_refuse_all(self):
        rules = [made('a', actions=[offer(0), offer(1)]), made('b', table='u', condition=(('same', ('new', 'k'), 1),))]
        self.assertIsNone(run(Rules(small(), rules), NEW, small().empty))
        self.assertIsNone(run(Rules(small(), [made('a', actions=[('insert', 't', (0, 0))])]), NEW, small().empty))
        ahead = made('b', table='u', when='ahead', level='statement')
        self.assertIsNone(run(Rules(small(), [rules[0], ahead]), NEW, small().empty))

    def test_endless(self):
        rules = Rules(small(), [loops()])
        for database in (small().empty, (((0, 0),), ()), (((0, 0), (1, 1)), ((0,),))):
            self.assertEqual(told(run, rules, DELETE, database), ('Endless', {}))
            self.assertEqual(told(trace, rules, DELETE, database), ('Endless', {}))
        self.assertEqual(run(rules, ('delete', 'u', ()), small().empty), small().empty)

    def test_endless_ahead_of_too_many(self):
        rules = Rules(small(), [loops()])
        self.assertEqual(told(run, rules, DELETE, small().empty, limit=1), ('Endless', {}))
        self.assertEqual(told(run, rules, DELETE, (((0, 0),), ()), limit=2), ('Endless', {}))
        self.assertEqual(told(run, rules, DELETE, (((0, 0),), ()), limit=1), ('TooMany', {'limit': 1}))

    def test_an_equal_call_behind_one_that_is_over(self):
        rules = Rules(small(), [made('a', 'delete', [('delete', 'u', ()), ('delete', 'u', ())])])
        self.assertEqual(run(rules, DELETE, (((0, 0), (1, 0)), ((0,),))), ((), ()))

    def test_the_same_statement_with_another_database_is_another_call(self):
        rules = Rules(small(), [made('a', 'delete', [DELETE], condition=(('some', 't', ()),), level='statement'),
                                made('b', 'delete', [('skip',)], when='ahead', condition=(('same', ('old', 'k'), 1),))])
        self.assertEqual(told(run, rules, DELETE, (((0, 0), (1, 0)), ())), ('Endless', {}))
        self.assertEqual(run(rules, DELETE, (((0, 0),), ())), small().empty)

    def test_limit(self):
        rules = Rules(small(), [made('a', 'delete', [offer(0)]), made('b', table='u', actions=[offer(1)]),
                                made('c', 'delete', [('skip',)], when='ahead', condition=(('same', 0, 1),))])
        database = (((0, 0), (1, 0)), ())
        # Two turns ahead, for each of two rows one behind, and one of b behind each offer of a new row.
        found = trace(rules, DELETE, database)
        turns = [step for step in found if step[0] == 'turn']
        self.assertEqual(len(turns), 2 + 2 + 2)
        for limit in range(1, len(turns)):
            for call in (run, trace):
                self.assertEqual(told(call, rules, DELETE, database, limit=limit), ('TooMany', {'limit': limit}))
        for limit in (len(turns), len(turns) + 1, 4000):
            self.assertEqual(run(rules, DELETE, database, limit=limit), ((), ((0,), (1,))))
            self.assertEqual(trace(rules, DELETE, database, limit=limit), found)

    def test_a_refusal_in_the_last_turn(self):
        rules = Rules(small(), [made('a'), made('b')])
        self.assertIsNone(run(rules, NEW, small().empty, limit=1))

    def test_the_limit_of_400(self):
        found = {}
        for number in range(450, 480, 2):
            rules = counter(9)
            many = 9 * (511 - number)
            found.setdefault(many > 400, told(run, rules, FIRST, counting(number))[0])
            self.assertEqual(told(run, rules, FIRST, counting(number))[0], found[many > 400])
            self.assertEqual(told(trace, rules, FIRST, counting(number))[0], found[many > 400])
        self.assertEqual(found, {True: 'TooMany', False: 'returned'})

    def test_exactly_400_turns(self):
        rules, call = long_runs(8, 2, 8)
        self.assertEqual(run(rules, *call), ((), ()))
        self.assertEqual(len([step for step in trace(rules, *call) if step[0] == 'turn']), 400)
        rules, call = long_runs(8, 2, 8, [idle('z', 'b', 'delete')])
        for one in (run, trace):
            self.assertEqual(told(one, rules, *call), ('TooMany', {'limit': 400}))
            self.assertEqual(told(one, rules, *call, limit=401)[0], 'returned')
        rules, call = long_runs(40, 4, 8)
        self.assertEqual(run(rules, *call, limit=4000), ((), ()))
        self.assertEqual(told(run, rules, *call, limit=3999), ('TooMany', {'limit': 3999}))

    def test_several_thousand_turns(self):
        rules = counter(9)
        end = counting(511)
        for number in (80, 250, 68):
            many = 9 * (511 - number)
            self.assertEqual(run(rules, FIRST, counting(number), limit=4000), end)
            self.assertEqual(told(run, rules, FIRST, counting(number), limit=many - 1), ('TooMany', {'limit': many - 1}))
            steps = trace(rules, FIRST, counting(number), limit=many)
            self.assertEqual(len([step for step in steps if step[0] == 'turn']), many)

    def test_many_rows(self):
        rules = wide(12)
        rows = tuple(rules.schema.rows('b'))
        end = run(rules, ('delete', 'b', ()), (rows, ()), limit=768)
        self.assertEqual(end, ((), ((0,), (1,), (2,), (3,))))
        self.assertEqual(told(run, rules, ('delete', 'b', ()), (rows, ()), limit=767), ('TooMany', {'limit': 767}))


class PlayTest(unittest.TestCase):
    def setUp(self):
        self.both = Rules(small(), [made('one', actions=[offer(0)]), made('two', condition=(('some', 'u', ()),))])

    def test_open_in_the_order_of_the_rules(self):
        rules = [made('z'), made('m'), made('a')]
        self.assertEqual(play(Rules(small(), rules), NEW, small().empty, []), ('open', ['z', 'm', 'a']))
        self.assertEqual(play(Rules(small(), rules[::-1]), NEW, small().empty, []), ('open', ['a', 'm', 'z']))
        ordered = Rules(small(), rules, [('m', 'z')])
        self.assertEqual(play(ordered, NEW, small().empty, []), ('open', ['m', 'a']))
        idle = [rule[:6] + ((('same', 0, 1),),) + rule[7:] for rule in rules]
        ordered = Rules(small(), idle, [('m', 'z')])
        self.assertEqual(play(ordered, NEW, small().empty, ['m']), ('open', ['z', 'a']))
        self.assertEqual(play(ordered, NEW, small().empty, ['a']), ('open', ['m']))
        self.assertEqual(play(ordered, NEW, small().empty, ['a', 'm', 'z']), ('end', (((0, 1),), ())))

    def test_ends(self):
        empty = small().empty
        self.assertEqual(play(Rules(small(), []), NEW, empty, []), ('end', (((0, 1),), ())))
        self.assertEqual(play(Rules(small(), []), NEW, (((0, 0),), ()), []), ('end', None))
        self.assertEqual(play(self.both, NEW, empty, ['one', 'two']), ('end', None))
        self.assertEqual(play(self.both, NEW, empty, ['two', 'one']), ('end', (((0, 1),), ((0,),))))

    def test_stopped(self):
        empty = small().empty
        elsewhere = Rules(small(), list(self.both.rules) + [made('far', 'delete'), made('late', when='late')], [('two', 'one')])
        for turns, at in [(['one'], 0), (['none'], 0), ([''], 0), (['far'], 0), (['late'], 0), (['two', 'two'], 1),
                          (['two', 'one', 'one'], 2), (['two', 'one', 'far'], 2), (['two', 'none', 'none'], 1)]:
            self.assertEqual(told(play, elsewhere, NEW, empty, turns), ('Stopped', {'at': at}))
        self.assertEqual(told(play, self.both, NEW, empty, ['one', 'two', 'two']), ('Stopped', {'at': 2}))
        self.assertEqual(told(play, Rules(small(), []), NEW, empty, ['one']), ('Stopped', {'at': 0}))

    def test_endless(self):
        rules = Rules(small(), [loops()])
        database = (((0, 0),), ())
        self.assertEqual(play(rules, DELETE, database, []), ('open', ['loop']))
        self.assertEqual(play(rules, DELETE, database, ['loop']), ('open', ['loop']))
        self.assertEqual(play(rules, DELETE, database, ['loop', 'loop']), ('endless',))
        self.assertEqual(told(play, rules, DELETE, database, ['loop'] * 3), ('Stopped', {'at': 2}))
        self.assertEqual(told(play, rules, DELETE, database, ['loop'] * 4), ('Stopped', {'at': 2}))

    def test_calls_within(self):
        rules = Rules(small(), [made('a', actions=[offer(0)]), made('b', table='u'), made('c', table='u', condition=NO_U),
                                made('d', condition=(('same', 0, 1),))])
        self.assertEqual(play(rules, NEW, small().empty, ['d', 'a']), ('open', ['b', 'c']))
        self.assertEqual(play(rules, NEW, small().empty, ['a', 'c']), ('open', ['b']))
        self.assertEqual(told(play, rules, NEW, small().empty, ['a', 'd']), ('Stopped', {'at': 1}))
        self.assertEqual(play(rules, NEW, small().empty, ['a', 'c', 'b']), ('end', None))

    def test_rules_ahead(self):
        rules = Rules(small(), [made('a', 'delete', [('skip',)], when='ahead', condition=(('same', ('old', 'k'), 0),)),
                                made('b', 'delete', when='ahead', condition=(('same', ('old', 'k'), 1),))])
        database = (((0, 0), (1, 0)), ())
        self.assertEqual(play(rules, DELETE, database, []), ('open', ['a', 'b']))
        # Behind the skip nothing more is done there: the next turn is one of the second row.
        self.assertEqual(play(rules, DELETE, database, ['a', 'a']), ('open', ['b']))
        self.assertEqual(play(rules, DELETE, database, ['b', 'a', 'b']), ('end', None))
        self.assertEqual(told(play, rules, DELETE, database, ['a', 'a', 'a']), ('Stopped', {'at': 2}))

    def test_each_list_goes_on_to_the_next_turn_that_is_due(self):
        rules = Rules(small(), [made('a', 'delete', [offer(('old', 'k'))])])
        database = (((0, 0), (1, 0)), ())
        self.assertEqual(play(rules, DELETE, database, []), ('open', ['a']))
        self.assertEqual(play(rules, DELETE, database, ['a']), ('open', ['a']))
        self.assertEqual(play(rules, DELETE, database, ['a', 'a']), ('end', ((), ((0,), (1,)))))

    def test_long_lists(self):
        rules = counter(8)
        steps = trace(rules, FIRST, counting(0), limit=4000)
        turns = [step[2] for step in steps if step[0] == 'turn']
        self.assertEqual(len(turns), 8 * 255)
        self.assertEqual(play(rules, FIRST, counting(0), turns), ('end', counting(255)))
        self.assertEqual(play(rules, FIRST, counting(0), turns[:-1])[0], 'open')
        self.assertEqual(told(play, rules, FIRST, counting(0), turns + ['a']), ('Stopped', {'at': 8 * 255}))


class TraceTest(unittest.TestCase):
    def test_no_rules(self):
        none = Rules(small(), [])
        self.assertEqual(trace(none, NEW, small().empty), [('call', None, NEW), ('change', 0, 't', None, (0, 1))])
        self.assertEqual(trace(none, NEW, (((0, 0),), ())), [('call', None, NEW)])
        self.assertEqual(trace(none, ('offer', 't', (0, 1)), (((0, 0),), ())), [('call', None, ('offer', 't', (0, 1)))])
        self.assertEqual(trace(none, DELETE, (((0, 0), (1, 1)), ())),
                         [('call', None, DELETE), ('change', 0, 't', (0, 0), None), ('change', 0, 't', (1, 1), None)])
        update = ('update', 't', (), (('v', 1),))
        self.assertEqual(trace(none, update, (((0, 0), (1, 1)), ())),
                         [('call', None, update), ('change', 0, 't', (0, 0), (0, 1))])

    def test_each_kind_of_step_with_its_cause(self):
        rules = Rules(small(), [
            made('a', 'update', [('turn', 'v', 1)], when='ahead'),
            made('b', 'update', [('skip',)], when='ahead', condition=(('same', ('new', 'v'), 0),)),
            made('c', 'update', [offer(('old', 'k')), offer(1)]),
            made('d', 'update', [offer(0)], level='statement'),
            made('e', 'insert', [('delete', 'u', ())], table='u', condition=(('same', ('new', 'k'), 1),)),
        ], [('a', 'b')])
        update = ('update', 't', (('k', 0),), (('v', 0),))
        self.assertEqual(trace(rules, update, (((0, 0), (1, 0)), ())), [
            ('call', None, update),
            ('turn', 0, 'a', (0, 0), (0, 0), True),
            ('turn', 0, 'b', (0, 0), (0, 1), False),
            ('change', 0, 't', (0, 0), (0, 1)),
            ('turn', 3, 'c', (0, 0), (0, 1), True),
            ('call', 4, ('offer', 'u', (0,))),
            ('change', 5, 'u', None, (0,)),
            ('turn', 6, 'e', None, (0,), False),
            ('call', 4, ('offer', 'u', (1,))),
            ('change', 8, 'u', None, (1,)),
            ('turn', 9, 'e', None, (1,), True),
            ('call', 10, ('delete', 'u', ())),
            ('change', 11, 'u', (0,), None),
            ('change', 11, 'u', (1,), None),
            ('turn', 0, 'd', None, None, True),
            ('call', 14, ('offer', 'u', (0,))),
            ('change', 15, 'u', None, (0,)),
            ('turn', 16, 'e', None, (0,), False),
        ])

    def test_changes_stand_ahead_of_the_turns_behind_them(self):
        rules = Rules(small(), [made('a', 'delete', condition=(('same', ('old', 'k'), 1),), actions=[offer(0)])])
        self.assertEqual(trace(rules, DELETE, (((0, 0), (1, 0)), ())), [
            ('call', None, DELETE),
            ('change', 0, 't', (0, 0), None),
            ('change', 0, 't', (1, 0), None),
            ('turn', 1, 'a', (0, 0), None, False),
            ('turn', 2, 'a', (1, 0), None, True),
            ('call', 4, offer(0)),
            ('change', 5, 'u', None, (0,)),
        ])

    def test_new_as_turned_ahead_of_the_turn(self):
        rules = Rules(small(), [made('a', actions=[('turn', 'v', 1), ('turn', 'k', 1)], when='ahead'),
                                made('b', actions=[('turn', 'v', 0)], when='ahead')], [('a', 'b')])
        self.assertEqual(trace(rules, ('insert', 't', (0, 0)), small().empty), [
            ('call', None, ('insert', 't', (0, 0))),
            ('turn', 0, 'a', None, (0, 0), True),
            ('turn', 0, 'b', None, (1, 1), True),
            ('change', 0, 't', None, (1, 0)),
        ])

    def test_columns_of_a_rule_ahead(self):
        rules = Rules(small(), [made('a', 'update', columns=('k',), when='ahead')])
        update = ('update', 't', (), (('v', 1),))
        self.assertEqual(trace(rules, update, (((0, 0),), ())), [
            ('call', None, update), ('turn', 0, 'a', (0, 0), (0, 1), False), ('change', 0, 't', (0, 0), (0, 1))])

    def test_no_step_behind_a_refusal(self):
        ahead = [('call', None, NEW)]
        lock = made('lock', when='ahead', level='statement')
        self.assertEqual(trace(Rules(small(), [lock, made('a', when='ahead')]), NEW, small().empty), ahead)
        self.assertEqual(trace(Rules(small(), [made('a', when='ahead')]), NEW, small().empty),
                         ahead + [('turn', 0, 'a', None, (0, 1), True)])
        changed = ahead + [('change', 0, 't', None, (0, 1))]
        rules = [made('a', actions=[offer(0), ('refuse',), offer(1)]), made('b'), made('c', level='statement')]
        self.assertEqual(trace(Rules(small(), rules), NEW, small().empty),
                         changed + [('turn', 1, 'a', None, (0, 1), True), ('call', 2, offer(0)),
                                    ('change', 3, 'u', None, (0,))])
        within = [made('a', actions=[('insert', 't', (0, 0)), offer(1)])]
        self.assertEqual(trace(Rules(small(), within), NEW, small().empty),
                         changed + [('turn', 1, 'a', None, (0, 1), True), ('call', 2, ('insert', 't', (0, 0)))])

    def test_rules_behind_a_skip_have_no_turn(self):
        rules = Rules(small(), [made('a', actions=[('skip',)], when='ahead'), made('b', when='ahead'), made('c')])
        self.assertEqual(trace(rules, NEW, small().empty), [('call', None, NEW), ('turn', 0, 'a', None, (0, 1), True)])


class ByTheShortestWayTest(unittest.TestCase):
    def cases(self, many):
        """Rules, a statement and a database."""
        for seed in range(many):
            chance = Chance(seed, Schema(2, [('t', ('k', 'v'), 1), ('u', ('a',), 1)]) if seed % 2 else None)
            if seed % 3:
                chance.part(chance.random.randint(1, 2))
            else:
                chance.focus(chance.random.randint(1, 4))
            yield chance, chance.any_rules(chance.random.randint(0, 6)), chance.any_statement(), chance.database()

    def test_run_and_trace(self):
        seen = {}
        for chance, rules, statement, database in self.cases(1500):
            limit = chance.random.choice([1, 2, 3, 5, 10, 30])
            out, one = naive.first_run(rules, statement, database, limit)
            wanted = {'Within': ('Endless', {}), 'Limit': ('TooMany', {'limit': limit}), 'end': ('returned', out[-1])}[out[0]]
            self.assertEqual(told(run, rules, statement, database, limit=limit), wanted)
            if out[0] == 'end':
                wanted = ('returned', one.steps)
                self.assertEqual(play(rules, statement, database, one.turns), out)
            self.assertEqual(told(trace, rules, statement, database, limit=limit), wanted)
            seen[out[0], out[-1] is None] = seen.get((out[0], out[-1] is None), 0) + 1
        self.assertTrue(min(seen.values()) > 5 and len(seen) == 4, seen)

    def test_play_by_all_choices(self):
        seen = {}
        for chance, rules, statement, database in self.cases(500):
            runs = naive.all_runs(rules, statement, database, most=60) or []
            for out, one in runs:
                wanted = out if out[0] == 'end' else ('endless',)
                self.assertEqual(play(rules, statement, database, one.turns), wanted)
                self.assertEqual(told(play, rules, statement, database, one.turns + ['a']),
                                 ('Stopped', {'at': len(one.turns)}))
                seen[wanted[0]] = True
                for cut in range(len(one.turns)):
                    ahead = one.turns[:cut]
                    free = [name for name in rules.names
                            if [1 for _, other in runs if other.turns[:cut + 1] == ahead + [name]]]
                    self.assertEqual(play(rules, statement, database, ahead), ('open', free))
                    for name in rules.names:
                        if name not in free:
                            self.assertEqual(told(play, rules, statement, database, ahead + [name] + one.turns[cut:]),
                                             ('Stopped', {'at': cut}))
        self.assertEqual(len(seen), 2)

    def test_asked_twice(self):
        for _, rules, statement, database in self.cases(60):
            kept = Rules(rules.schema, rules.rules, rules.pairs)
            for call in (run, trace):
                first = told(call, rules, statement, database, limit=20)
                again = told(call, rules, statement, database, limit=20)
                self.assertEqual(first, again)
                if isinstance(first[1], list):
                    first[1].clear()
                self.assertEqual(told(call, rules, statement, database, limit=20), again)
            opened = play(rules, statement, database, [])
            if opened[0] == 'open':
                turns = opened[1][:1]
                play(rules, statement, database, turns)
                self.assertEqual(turns, opened[1][:1])
                opened[1].clear()
                self.assertNotEqual(play(rules, statement, database, [])[1], [])
            self.assertEqual(rules, kept)


if __name__ == '__main__':
    unittest.main()
