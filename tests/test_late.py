"""[80], [81], [11]: late rules, and one commit."""

import copy
import unittest

from firingrules.late import commit, commit_step, difference, play_commit, waiting
from firingrules.ruleset import Rules
from firingrules.schemas import Schema
from tests import naive, support
from tests.chance import Chance
from tests.naive import NaiveCommit, commit_outcome, step_outcome
from tests.support import ascending, large, offer, small, told
from tests.worlds import idle, long_runs

EMPTY = ((), ())
T = (((0, 0), (1, 0)), ())


def made(name, event='insert', *given, when='late', **more):
    """A rule that is late, if nothing else is said."""
    return support.made(name, event, *given, when=when, **more)


def late(*rules):
    """Rules of the small schema."""
    return Rules(small(), rules)


class DifferenceTest(unittest.TestCase):
    def test_key_by_key(self):
        schema = small()
        for one, other, wanted in [
            ((), (), []),
            (((0, 0),), ((0, 0),), []),
            ((), ((0, 1),), [(None, (0, 1))]),
            (((0, 1),), (), [((0, 1), None)]),
            (((0, 0),), ((0, 1),), [((0, 0), (0, 1))]),
            (((0, 0),), ((1, 0),), [((0, 0), None), (None, (1, 0))]),
            (((1, 0),), ((0, 0),), [(None, (0, 0)), ((1, 0), None)]),
            (((0, 0), (1, 0)), ((0, 0), (1, 1)), [((1, 0), (1, 1))]),
            (((0, 0), (1, 0)), ((0, 1), (1, 1)), [((0, 0), (0, 1)), ((1, 0), (1, 1))]),
        ]:
            self.assertEqual(difference(schema, 't', one, other), wanted)

    def test_keys_of_several_columns(self):
        one, other = ((0, 0, 1), (0, 1, 1), (2, 3, 0)), ((0, 0, 2), (0, 2, 1), (2, 3, 0), (3, 0, 0))
        self.assertEqual(difference(large(), 'a', one, other),
                         [((0, 0, 1), (0, 0, 2)), ((0, 1, 1), None), (None, (0, 2, 1)), (None, (3, 0, 0))])
        self.assertEqual(difference(large(), 'b', one, other),
                         [((0, 0, 1), None), (None, (0, 0, 2)), ((0, 1, 1), None), (None, (0, 2, 1)), (None, (3, 0, 0))])
        self.assertEqual(difference(large(), 'c', ((3, 1),), ((3, 0),)), [((3, 1), (3, 0))])

    def test_new_lists(self):
        first = difference(small(), 't', (), ((0, 1),))
        first.clear()
        self.assertEqual(difference(small(), 't', (), ((0, 1),)), [(None, (0, 1))])

    def test_by_chance(self):
        for seed in range(300):
            chance = Chance(seed)
            for table, one, other in zip(chance.schema.names, chance.database(), chance.database()):
                self.assertEqual(difference(chance.schema, table, one, other),
                                 naive.difference(chance.schema, table, one, other))


class WaitingTest(unittest.TestCase):
    def check(self, rules, now, bases, wanted):
        self.assertEqual(waiting(rules, (now, bases)), wanted)

    def test_events(self):
        rules = late(made('d', 'delete'), made('i', 'insert'), made('u', 'update'))
        for base, content, wanted in [((), (), []), ((), ((0, 0),), ['i']), (((0, 0),), (), ['d']),
                                      (((0, 0),), ((0, 1),), ['u']), (((0, 0),), ((1, 0),), ['d', 'i']),
                                      (((0, 0), (1, 0)), ((0, 0), (1, 1)), ['u']), (((0, 0),), ((0, 1), (1, 1)), ['i', 'u'])]:
            self.check(rules, (content, ()), (base, base, base), wanted)
            self.check(rules, (content, ()), (base, content, base), [name for name in wanted if name != 'i'])

    def test_columns(self):
        schema = Schema(2, [('t', ('k', 'v', 'x'), 1)])
        for columns, new, wanted in [((), (0, 0, 1), True), (('v',), (0, 0, 1), False), (('x',), (0, 0, 1), True),
                                     (('v', 'x'), (0, 1, 0), True), (('k',), (0, 1, 1), False), (('k', 'x'), (0, 0, 1), True)]:
            rules = Rules(schema, [made('u', 'update', columns=columns)])
            self.assertEqual(waiting(rules, ((((0, 0, 0),),), (((0, 0, 0),),))), [])
            self.assertEqual(waiting(rules, (((new,),), (((0, 0, 0),),))), ['u'] if wanted else [])

    def test_in_the_order_of_the_rules_with_several_over_one_table(self):
        rules = late(made('z'), made('a', when='behind'), made('m', level='statement'), made('b', table='u'), made('c'))
        self.check(rules, (((0, 0),), ((0,),)), ((), (), (), ()), ['z', 'm', 'b', 'c'])
        self.check(rules, (((0, 0),), ((0,),)), ((), ((0, 0),), (), ()), ['z', 'b', 'c'])
        self.check(rules, (((0, 0),), ((0,),)), (((0, 0),), ((0, 0),), ((0,),), ()), ['c'])
        self.check(rules, (((0, 0),), ((0,),)), (((0, 0),), ((0, 0),), ((0,),), ((0, 0),)), [])

    def test_levels(self):
        for level in ('row', 'statement'):
            rules = late(made('u', 'update', columns=('k',), level=level))
            self.check(rules, (((0, 1),), ()), (((0, 0),),), [])
            rules = late(made('u', 'update', columns=('v',), level=level))
            self.check(rules, (((0, 1),), ()), (((0, 0),),), ['u'])

    def test_no_late_rules(self):
        self.check(late(made('a', when='behind')), T, (), [])


class CommitStepTest(unittest.TestCase):
    def test_no_rule_waits(self):
        rules = late(made('a'))
        self.assertEqual(commit_step(rules, (EMPTY, ((),)), {}), ([], [], []))
        self.assertEqual(commit_step(late(), (T, ()), {}), ([], [], []))

    def test_it_does_not_fire(self):
        rules = late(made('a', condition=(('same', ('new', 'v'), 1),)), made('b'))
        self.assertEqual(commit_step(rules, (T, ((), ())), {}), ([(T, (T[0], ()))], [], []))

    def test_it_refuses(self):
        rules = late(made('a', condition=(('same', ('new', 'k'), 1),)))
        self.assertEqual(commit_step(rules, (T, ((),)), {}), ([None], [], ['a']))

    def test_calls(self):
        rules = late(made('a', actions=[('offer', 'u', (('new', 'k'),))]))
        first, second = (offer(0), T), (offer(1), (T[0], ((0,),)))
        behind = (T[0], ((0,), (1,)))
        self.assertEqual(commit_step(rules, (T, ((),)), {}), ([], [first], ['a']))
        table = {first: [second[1]]}
        self.assertEqual(commit_step(rules, (T, ((),)), table), ([], [first, second], ['a']))
        table[second] = [behind]
        self.assertEqual(commit_step(rules, (T, ((),)), table), ([(behind, (T[0],))], [first, second], ['a']))
        table[second] = [behind, None, EMPTY]
        self.assertEqual(commit_step(rules, (T, ((),)), table),
                         ([None, (EMPTY, (T[0],)), (behind, (T[0],))], [first, second], ['a']))
        table[first] = [None]
        self.assertEqual(commit_step(rules, (T, ((),)), table), ([None], [first], ['a']))
        table[first] = []
        self.assertEqual(commit_step(rules, (T, ((),)), table), ([], [first], ['a']))

    def test_with_level_statement_once(self):
        rules = late(made('a', actions=[offer(0)], level='statement'))
        call = (offer(0), T)
        self.assertEqual(commit_step(rules, (T, ((),)), {call: [EMPTY]}), ([(EMPTY, (T[0],))], [call], ['a']))

    def test_the_difference_as_it_was_at_the_beginning_of_the_turn(self):
        # The second row is gone by then, but the rule looks at it, with the database as it is.
        rules = late(made('a', actions=[('delete', 't', ()), ('offer', 'u', (('new', 'k'),))]))
        gone = ('delete', 't', ())
        table = {(gone, T): [EMPTY], (offer(0), EMPTY): [((), ((0,),))], (gone, ((), ((0,),))): [((), ((0,),))],
                 (offer(1), ((), ((0,),))): [((), ((0,), (1,)))]}
        self.assertEqual(commit_step(rules, (T, ((),)), table), ([(((), ((0,), (1,))), (T[0],))], sorted(table), ['a']))
        still = late(made('a', actions=[('delete', 't', ()), offer(0)], condition=(('some', 't', ()),)))
        self.assertEqual(commit_step(still, (T, ((),)), table)[0], [(((), ((0,),)), (T[0],))])

    def test_only_the_tuples_for_which_it_waits(self):
        now = (((0, 1), (1, 0)), ())
        base = ((0, 0),)
        for event, value in (('update', 0), ('insert', 1)):
            word = ('new', 'k')
            rules = late(made('a', event, [('offer', 'u', (word,))]))
            self.assertEqual(commit_step(rules, (now, (base,)), {})[1], [(offer(value), now)])
        rules = late(made('a', 'delete', [('offer', 'u', (('old', 'k'),))]))
        self.assertEqual(commit_step(rules, (((), ((0,),)), (((1, 1),),)), {})[1], [(offer(1), ((), ((0,),)))])

    def test_the_base_is_the_content_ahead_of_the_actions(self):
        wipe = ('delete', 't', ())
        rules = late(made('a', actions=[wipe]), made('b'))
        one = (((0, 0),), ())
        self.assertEqual(commit_step(rules, (one, ((), ())), {(wipe, one): [EMPTY]})[0], [(EMPTY, (((0, 0),), ()))])

    def test_by_trying_all_choices(self):
        seen = {}
        for seed in range(1500):
            chance = Chance(seed, Schema(2, [('t', ('k', 'v'), 1), ('u', ('a',), 1)]) if seed % 2 else None)
            chance.part(chance.random.randint(1, 3))
            rules = chance.any_rules(chance.random.randint(1, 4), whens=('late', 'late', 'late', 'behind'))
            bases = tuple([chance.database()[rules.schema.names.index(rule[1])] for rule in rules.rules if rule[4] == 'late'])
            state = (chance.database(), bases)
            table = {}
            for _ in range(3):
                for call in commit_step(rules, state, table)[1]:
                    some = [None, call[1], chance.database(), chance.database()]
                    table[call] = [chance.random.choice(some) for _ in range(chance.random.choice([0, 1, 2, 3, 3]))]
            runs = naive.all_runs(rules, state, None, ends=table, begin=step_outcome, kind=NaiveCommit)
            if waiting(rules, state) and runs is not None:
                states = ascending({out[1] for out, _ in runs if out[0] == 'end'})
                calls = sorted({call for _, one in runs for call in one.calls})
                fired = sorted({name for _, one in runs for name, _ in one.fired})
                self.assertEqual(commit_step(rules, state, table), (states, calls, fired))
                seen[len(states), min(len(calls), 2)] = True
        self.assertTrue({(0, 1), (1, 0), (1, 1), (1, 2), (2, 1), (3, 2)} <= set(seen), seen)

    def test_the_table_stays_and_answers_are_new(self):
        rules = late(made('a', actions=[offer(0)]))
        table = {(offer(0), T): [T, None]}
        kept = copy.deepcopy(table)
        first = commit_step(rules, (T, ((),)), table)
        again = copy.deepcopy(first)
        for part in first:
            part.append('more')
        self.assertEqual(commit_step(rules, (T, ((),)), table), again)
        self.assertEqual(table, kept)
        found = waiting(rules, (T, ((),)))
        found.clear()
        self.assertEqual(waiting(rules, (T, ((),))), ['a'])


class CommitTest(unittest.TestCase):
    def test_nothing_if_no_rule_waits(self):
        rules = late(made('a'), made('b', 'delete'), made('c', 'update'))
        self.assertEqual(commit(rules, T, T), T)
        self.assertEqual(commit(rules, T, (T[0], ((1,),)), limit=1), (T[0], ((1,),)))
        self.assertEqual(commit(late(), T, EMPTY), EMPTY)
        self.assertIsNone(commit(rules, T, EMPTY))

    def test_what_came_and_went_is_nothing(self):
        self.assertEqual(commit(late(made('a', 'update')), T, T), T)
        self.assertEqual(commit(late(made('a', 'update')), (((0, 0),), ()), (((1, 0),), ())), (((1, 0),), ()))
        self.assertIsNone(commit(late(made('a', 'update')), (((0, 0),), ()), (((0, 1),), ())))

    def test_the_first_rule_that_waits(self):
        one = made('one', actions=[offer(0)], condition=(('no', 'u', ()),))
        two = made('two', actions=[offer(1)], condition=(('no', 'u', ()),))
        self.assertEqual(commit(late(one, two), EMPTY, (((0, 0),), ())), (((0, 0),), ((0,),)))
        self.assertEqual(commit(late(two, one), EMPTY, (((0, 0),), ())), (((0, 0),), ((1,),)))

    def test_behind_each_turn_the_first_rule_that_waits_has_it(self):
        # b writes t, so a waits again ahead of c.
        rules = late(made('a', actions=[('delete', 'u', (('k', 0),))]), made('b', table='u', actions=[('offer', 't', (1, 1))]),
                     made('c', table='u', condition=(('some', 'u', (('k', 0),)),)))
        start, now = EMPTY, ((), ((0,),))
        self.assertEqual(play_commit(rules, start, now, ['b', 'a']), ('end', (((1, 1),), ())))
        self.assertEqual(commit(rules, start, now), (((1, 1),), ()))

    def test_a_rule_that_waits_again_by_what_it_wrote(self):
        rules = late(made('a', actions=[('offer', 't', (1, ('new', 'v')))]))
        self.assertEqual(commit(rules, EMPTY, (((0, 1),), ())), (((0, 1), (1, 1)), ()))
        self.assertEqual(play_commit(rules, EMPTY, (((0, 1),), ()), ['a']), ('open', ['a']))
        self.assertEqual(play_commit(rules, EMPTY, (((0, 1),), ()), ['a', 'a']), ('end', (((0, 1), (1, 1)), ())))

    def test_calls_run_with_their_rules(self):
        rules = late(made('a', actions=[offer(0)]), made('b', table='u', when='behind', actions=[offer(1)]),
                     made('c', 'insert', when='behind'))
        self.assertEqual(commit(rules, EMPTY, (((0, 0),), ())), (((0, 0),), ((0,), (1,))))
        refusing = late(made('a', actions=[offer(0)]), made('b', table='u', when='behind'))
        self.assertIsNone(commit(refusing, EMPTY, (((0, 0),), ())))
        self.assertIsNone(commit(late(made('a', actions=[('insert', 't', (0, 1))])), EMPTY, (((0, 0),), ())))

    def test_endless_by_a_call_that_begins_within_itself(self):
        rules = late(made('a', actions=[('delete', 'u', ())]),
                     made('b', 'delete', [('delete', 'u', ())], table='u', when='behind', level='statement'))
        now = (((0, 0),), ())
        self.assertEqual(told(commit, rules, EMPTY, now), ('Endless', {}))
        self.assertEqual(told(commit, rules, EMPTY, now, limit=2), ('Endless', {}))
        self.assertEqual(told(commit, rules, EMPTY, now, limit=1), ('TooMany', {'limit': 1}))
        self.assertEqual(play_commit(rules, EMPTY, now, ['a', 'b']), ('endless',))
        self.assertEqual(told(play_commit, rules, EMPTY, now, ['a', 'b', 'b']), ('Stopped', {'at': 2}))

    def flips(self):
        """A rule that changes the value of a row back and forth."""
        return late(made('a', 'update', [('update', 't', (), (('v', ('old', 'v')),))]))

    def test_endless_by_a_state_that_there_has_been(self):
        rules = self.flips()
        one, other = (((0, 0),), ()), (((0, 1),), ())
        self.assertEqual(told(commit, rules, one, other), ('Endless', {}))
        turns = ['a'] * 2
        self.assertEqual(play_commit(rules, one, other, turns[:1]), ('open', ['a']))
        self.assertEqual(play_commit(rules, one, other, turns), ('endless',))
        self.assertEqual(told(play_commit, rules, one, other, turns + ['a']), ('Stopped', {'at': 2}))
        self.assertEqual(told(play_commit, rules, one, other, turns + ['x']), ('Stopped', {'at': 2}))
        self.assertEqual(told(commit, rules, one, other, limit=2), ('Endless', {}))
        self.assertEqual(told(commit, rules, one, other, limit=1), ('TooMany', {'limit': 1}))

    def test_limit(self):
        rules = late(made('a', actions=[offer(0), offer(1)]), made('b', table='u', when='behind', condition=(('same', 0, 1),)),
                     made('c', table='u', condition=(('same', 0, 1),)))
        now = (((0, 0), (1, 0)), ())
        # a once, b behind each of two offers that change something, c once.
        for limit in (1, 2, 3):
            self.assertEqual(told(commit, rules, EMPTY, now, limit=limit), ('TooMany', {'limit': limit}))
        for limit in (4, 5, 4000):
            self.assertEqual(commit(rules, EMPTY, now, limit=limit), (now[0], ((0,), (1,))))
        self.assertEqual(commit(rules, EMPTY, now), (now[0], ((0,), (1,))))

    def test_exactly_400_turns(self):
        # The turn of the late rule, and 19 times that it looks at a row, three statements with seven turns.
        def given(*more):
            rules, call = long_runs(19, 1, 7)
            first = rules.rules[0][:4] + ('late',) + rules.rules[0][5:]
            return Rules(rules.schema, [first, *rules.rules[1:], *more]), call[1]
        rules, beginning = given()
        self.assertEqual(commit(rules, beginning, EMPTY), EMPTY)
        self.assertEqual(commit(rules, beginning, EMPTY, limit=400), EMPTY)
        self.assertEqual(told(commit, rules, beginning, EMPTY, limit=399), ('TooMany', {'limit': 399}))
        rules, beginning = given(idle('z', 'b', 'delete', when='late'))
        self.assertEqual(told(commit, rules, beginning, EMPTY), ('TooMany', {'limit': 400}))
        self.assertEqual(commit(rules, beginning, EMPTY, limit=401), EMPTY)

    def test_the_limit_of_400(self):
        schema = Schema(4, [('t', ('k', 'v', 'x'), 3), ('u', ('k', 'v', 'x'), 3)])
        again = made('a', actions=[('offer', 'u', (('new', 'k'), ('new', 'v'), ('new', 'x')))])
        idle = [made('bcdefg'[at], table='u', when='behind', condition=(('same', 0, 1),)) for at in range(6)]
        rules = Rules(schema, [again] + idle)
        rows = schema.rows('t')
        empty = ((), ())
        # 64 rows with 6 turns each, and the turn of a: 385.
        whole = (tuple(rows), ())
        self.assertEqual(commit(rules, empty, whole), (whole[0], whole[0]))
        self.assertEqual(commit(rules, empty, whole, limit=385), (whole[0], whole[0]))
        self.assertEqual(told(commit, rules, empty, whole, limit=384), ('TooMany', {'limit': 384}))
        more = Rules(schema, [again] + idle + [made('h', table='u', when='behind', condition=(('same', 0, 1),))])
        self.assertEqual(told(commit, more, empty, whole), ('TooMany', {'limit': 400}))
        self.assertEqual(commit(more, empty, whole, limit=449), (whole[0], whole[0]))


class PlayCommitTest(unittest.TestCase):
    def test_the_late_rule_alone_where_its_turn_is_due(self):
        rules = late(made('z'), made('y'), made('a', when='behind'))
        now = (((0, 0),), ())
        self.assertEqual(play_commit(rules, EMPTY, now, []), ('open', ['z']))
        for name in ('y', 'a', 'x', ''):
            self.assertEqual(told(play_commit, rules, EMPTY, now, [name]), ('Stopped', {'at': 0}))
        self.assertEqual(play_commit(rules, EMPTY, now, ['z']), ('end', None))
        self.assertEqual(told(play_commit, rules, EMPTY, now, ['z', 'y']), ('Stopped', {'at': 1}))
        self.assertEqual(play_commit(rules, now, now, []), ('end', now))
        self.assertEqual(told(play_commit, rules, now, now, ['z']), ('Stopped', {'at': 0}))

    def test_turns_within(self):
        rules = late(made('a', actions=[offer(0)]), made('c', table='u', when='behind', actions=[offer(1)], condition=(('no', 'u', (('k', 1),)),)),
                     made('b', table='u', when='behind', condition=(('same', 0, 1),)), made('d', 'delete'))
        now = (((0, 0),), ())
        self.assertEqual(play_commit(rules, EMPTY, now, ['a']), ('open', ['c', 'b']))
        self.assertEqual(play_commit(rules, EMPTY, now, ['a', 'b']), ('open', ['c']))
        self.assertEqual(play_commit(rules, EMPTY, now, ['a', 'c']), ('open', ['c', 'b']))
        self.assertEqual(told(play_commit, rules, EMPTY, now, ['a', 'a']), ('Stopped', {'at': 1}))
        self.assertEqual(told(play_commit, rules, EMPTY, now, ['a', 'd']), ('Stopped', {'at': 1}))
        self.assertEqual(play_commit(rules, EMPTY, now, ['a', 'c', 'b', 'c', 'b']), ('end', (((0, 0),), ((0,), (1,)))))
        self.assertEqual(told(play_commit, rules, EMPTY, now, ['a', 'c', 'b', 'c', 'b', 'b']), ('Stopped', {'at': 5}))

    def test_by_trying_all_choices(self):
        seen = {}
        for seed in range(2000):
            chance = Chance(seed, Schema(2, [('t', ('k', 'v'), 1), ('u', ('a',), 1)]) if seed % 2 else None)
            chance.focus(chance.random.randint(1, 6) if seed % 3 else 1)
            whens = ('late', 'late', 'behind', 'ahead') if seed % 3 else ('late',)
            rules = chance.any_rules(chance.random.randint(1, 5), whens=whens)
            beginning, now = chance.database(), chance.database()
            limit = chance.random.choice([1, 2, 3, 10, 50])
            one = NaiveCommit(rules, lambda options: options[0], limit=limit)
            out = commit_outcome(one, beginning, now)
            wanted = {'end': ('returned', out[-1]), 'Limit': ('TooMany', {'limit': limit})}.get(out[0], ('Endless', {}))
            self.assertEqual(told(commit, rules, beginning, now, limit=limit), wanted)
            seen[out[0]] = True
            for out, one in naive.all_runs(rules, beginning, now, most=40, begin=commit_outcome, kind=NaiveCommit) or []:
                wanted = out if out[0] == 'end' else ('endless',)
                self.assertEqual(play_commit(rules, beginning, now, one.turns), wanted)
                self.assertEqual(told(play_commit, rules, beginning, now, one.turns + ['a']),
                                 ('Stopped', {'at': len(one.turns)}))
                for cut in range(len(one.turns)):
                    opened = play_commit(rules, beginning, now, one.turns[:cut])
                    self.assertEqual(opened[0], 'open')
                    self.assertIn(one.turns[cut], opened[1])
        self.assertEqual(set(seen), {'end', 'Limit', 'Within', 'Again'})

    def test_asked_twice(self):
        rules = late(made('a', actions=[offer(0)]), made('c', table='u', when='behind', condition=(('same', 0, 1),)))
        turns = ['a']
        first = play_commit(rules, EMPTY, (((0, 0),), ()), turns)
        self.assertEqual(first, ('open', ['c']))
        first[1].clear()
        self.assertEqual(play_commit(rules, EMPTY, (((0, 0),), ()), turns), ('open', ['c']))
        self.assertEqual(turns, ['a'])
        self.assertEqual(commit(rules, EMPTY, (((0, 0),), ())), commit(rules, EMPTY, (((0, 0),), ())))


if __name__ == '__main__':
    unittest.main()
