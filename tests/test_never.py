"""[92]: whether a rule ever fires."""

import copy
import inspect
import unittest

from firingrules.never import fires
from firingrules.ruleset import Rules
from firingrules.runs import play
from firingrules.schemas import Schema
from firingrules.tables import decide, starts
from tests import naive
from tests.chance import Chance
from tests.spread import decided, start_order
from tests.support import made, offer, small, told
from tests.worlds import FIRST, ONES, counter, counting, idle, long_runs

NEW = ('insert', 't', (0, 1))
DELETE = ('delete', 't', ())
EMPTY = ((), ())
COPY = made('copy', actions=[('offer', 'u', (('new', 'k'),))])
LOOP = made('loop', 'delete', [DELETE], level='statement')


def rules(*given):
    """Rules of the small schema."""
    return Rules(small(), given)


class Over(Exception):
    """A turn list is over."""


def last_fires(given, statement, database, turns):
    """Whether a turn list is one that a run begins with, in whose last turn the rule fires; it is not empty."""
    line = list(turns)

    def choose(options):
        if not line:
            raise Over()
        if line[0] not in options:
            raise AssertionError(line[0])
        return line.pop(0)
    run = naive.Naive(given, choose)
    try:
        naive.outcome(run, statement, database)
    except Over:
        pass
    told_turns = [step for step in run.steps if step[0] == 'turn']
    return not line and len(told_turns) == len(turns) and told_turns[-1][2] == turns[-1] and told_turns[-1][5]


class FiresTest(unittest.TestCase):
    def check(self, given, name, line, start):
        """Check that a rule fires at a start first; return the turn list."""
        found = fires(given, name, line)
        self.assertEqual(found[:3], ('fires', *start))
        self.assertEqual(len(found), 4)
        self.assertEqual(found[3][-1], name)
        self.assertIn(play(given, *start, found[3])[0], ('open', 'end', 'endless'))
        self.assertIs(last_fires(given, *start, found[3]), True)
        return found[3]

    def test_a_rule_that_never_fires(self):
        line = [(NEW, EMPTY), (DELETE, EMPTY)]
        for rule in (idle('a', 't', 'insert', 'row'), idle('a', 't', 'insert'), made('a', table='u'), made('a', 'delete'),
                     idle('a', 't', 'insert', 'row', 'ahead'), made('a', 'update')):
            given = rules(rule)
            self.assertEqual(fires(given, 'a', line), ('never', decide(given, line)[1]))
        self.assertEqual(fires(rules(COPY), 'copy', []), ('never', []))

    def test_the_table_has_all_calls(self):
        given = rules(COPY, idle('a', 'u', 'insert'))
        found = fires(given, 'a', [(NEW, EMPTY)])
        self.assertEqual(found, ('never', decide(given, [(NEW, EMPTY)])[1]))
        self.assertEqual(len(found[1]), 2)

    def test_ahead_of_a_row(self):
        turns = made('a', actions=[('turn', 'v', 0)], when='ahead')
        self.assertEqual(self.check(rules(turns), 'a', [(NEW, EMPTY)], (NEW, EMPTY)), ['a'])
        # Also if nothing comes of it, and ahead of keys that refuse all.
        there = (((0, 1),), ())
        self.assertEqual(self.check(rules(turns), 'a', [(NEW, there)], (NEW, there)), ['a'])
        skip = made('b', actions=[('skip',)], when='ahead')
        self.check(rules(skip, turns), 'a', [(NEW, EMPTY)], (NEW, EMPTY))
        order = Rules(small(), [skip, turns], [('b', 'a')])
        self.assertEqual(fires(order, 'a', [(NEW, EMPTY)])[0], 'never')
        self.check(order, 'b', [(NEW, EMPTY)], (NEW, EMPTY))

    def test_only_ahead_of_a_later_row(self):
        rows = (((0, 0), (1, 1)), ())
        for action in (('skip',), ('refuse',)):
            late = made('a', 'delete', [action], when='ahead', condition=(('same', ('old', 'k'), 1),))
            other = made('b', 'delete', [('skip',)], when='ahead', condition=(('same', ('old', 'k'), 0),))
            # A turn of each for the first row, then that of a for the second one; b may go ahead or have none.
            found = self.check(rules(late, other), 'a', [(DELETE, rows)], (DELETE, rows))
            self.assertIn(found, [['b', 'a'], ['b', 'b', 'a'], ['a', 'b', 'a'], ['a', 'b', 'b', 'a'], ['b', 'a', 'a']])
        # Behind a refusal there are no more rows.
        stop = made('b', 'delete', [('refuse',)], when='ahead', condition=(('same', ('old', 'k'), 0),))
        self.assertEqual(fires(rules(late, stop), 'a', [(DELETE, rows)])[0], 'never')

    def test_behind_a_row_and_behind_a_statement(self):
        self.assertEqual(self.check(rules(COPY), 'copy', [(NEW, EMPTY)], (NEW, EMPTY)), ['copy'])
        level = made('a', level='statement')
        self.assertEqual(self.check(rules(COPY, level), 'a', [(NEW, EMPTY)], (NEW, EMPTY)), ['copy', 'a'])
        update = ('update', 't', (), (('v', 0),))
        columns = made('a', 'update', columns=('v',))
        both = [(update, (((0, 0),), ())), (update, (((0, 1),), ()))]
        self.assertEqual(self.check(rules(columns), 'a', both, both[1]), ['a'])
        self.assertEqual(fires(rules(columns), 'a', both[:1])[0], 'never')

    def test_only_behind_a_later_row(self):
        rows = (((0, 0), (1, 1)), ())
        last = made('a', 'delete', [offer(0)], condition=(('same', ('old', 'k'), 1),))
        self.assertEqual(self.check(rules(last), 'a', [(DELETE, rows)], (DELETE, rows)), ['a', 'a'])

    def test_only_in_some_runs(self):
        lock = made('lock', condition=(('some', 'u', ()),))
        self.assertEqual(self.check(rules(COPY, lock), 'lock', [(NEW, EMPTY)], (NEW, EMPTY)), ['copy', 'lock'])
        first = Rules(small(), [COPY, lock], [('lock', 'copy')])
        self.assertEqual(fires(first, 'lock', [(NEW, EMPTY)])[0], 'never')

    def test_only_in_a_call_within_others(self):
        deep = [COPY, made('b', table='u', actions=[('delete', 't', (('k', ('new', 'k')),))]), made('c', 'delete', [offer(1)])]
        found = self.check(rules(*deep), 'c', [(NEW, EMPTY)], (NEW, EMPTY))
        self.assertEqual(found, ['copy', 'b', 'c'])
        # The call that begins within itself would be the fourth, but there its key is there.
        second = made('copy', actions=[('offer', 'u', (1,)), ('offer', 'u', (0,))])
        within = made('b', table='u', actions=[DELETE], condition=(('same', ('new', 'k'), 0),))
        found = self.check(rules(second, within, made('c', 'delete')), 'c', [(NEW, EMPTY)], (NEW, EMPTY))
        self.assertEqual(found, ['copy', 'b', 'b', 'c'])

    def test_in_runs_that_are_refused_later(self):
        stop = made('stop', level='statement')
        self.assertEqual(self.check(rules(COPY, stop), 'copy', [(NEW, EMPTY)], (NEW, EMPTY)), ['copy'])
        # By its own refusal, also within a call.
        self.assertEqual(self.check(rules(COPY, stop), 'stop', [(NEW, EMPTY)], (NEW, EMPTY)), ['copy', 'stop'])
        within = made('stop', table='u')
        self.assertEqual(self.check(rules(COPY, within), 'stop', [(NEW, EMPTY)], (NEW, EMPTY)), ['copy', 'stop'])
        ahead = made('stop', when='ahead')
        self.assertEqual(self.check(rules(COPY, ahead), 'stop', [(NEW, EMPTY)], (NEW, EMPTY)), ['stop'])
        self.assertEqual(fires(rules(COPY, ahead), 'copy', [(NEW, EMPTY)])[0], 'never')

    def test_a_call_that_is_refused_by_a_rule_ahead_of_the_statement(self):
        stop = made('stop', when='ahead', level='statement')
        self.assertEqual(fires(rules(COPY, stop), 'copy', [(NEW, EMPTY)]), ('never', [(NEW, EMPTY, [None], 0)]))

    def test_the_first_start(self):
        two = made('a', condition=(('same', ('new', 'v'), 1),), actions=[offer(0)])
        line = [(NEW, (((1, 0), ), ((0,),))), (NEW, ((), ((1,),))), (('insert', 't', (1, 0)), EMPTY), (NEW, ((), ((0,),)))]
        for given in (line, line[::-1], line[2:] + line[:2]):
            self.check(rules(two), 'a', given, (NEW, ((), ((0,),))))
        self.check(rules(two), 'a', None, (NEW, EMPTY))
        self.check(rules(two), 'a', starts(small())[::-1], (NEW, EMPTY))
        self.check(rules(made('a', 'delete', [offer(0)])), 'a', None, (('delete', 't', (('k', 0),)), (((0, 0),), ())))
        self.assertEqual(fires(rules(idle('a', 't', 'insert')), 'a'), ('never', decide(rules(idle('a', 't', 'insert')))[1]))

    def test_endless_in_any_case(self):
        line = [(NEW, EMPTY), (DELETE, EMPTY), (DELETE, (((0, 0),), ()))]
        wanted = decide(rules(LOOP, COPY), line)
        self.assertEqual(wanted[:3], ('endless', DELETE, EMPTY))
        for name in ('copy', 'loop'):
            self.assertEqual(fires(rules(LOOP, COPY), name, line), wanted)
        self.assertEqual(fires(rules(LOOP, COPY), 'copy', [(NEW, EMPTY), (DELETE, (((0, 0),), ()))])[:2], ('endless', DELETE))
        self.check(rules(LOOP, COPY), 'copy', line[:1], line[0])

    def test_the_errors_of_decide(self):
        line = [(NEW, EMPTY), (DELETE, EMPTY)]
        self.assertEqual(told(fires, rules(COPY), 'copy', line, most=2), ('TooMany', {'limit': 2}))
        self.assertEqual(fires(rules(COPY), 'copy', line, most=3)[0], 'fires')
        self.assertEqual(told(fires, rules(COPY), 'copy', most=504), ('TooMany', {'limit': 504}))
        three = Schema(2, [('t', ('k', 'v', 'x'), 2), ('u', ('k',), 1)])
        late = Rules(three, [made('a', table='u', actions=[('offer', 'u', (0,))])])
        self.assertEqual(told(fires, late, 'a'), ('TooMany', {'limit': 1000}))
        self.assertEqual(inspect.signature(fires).parameters['most'].default, 1000)

    def test_long_turn_lists(self):
        given = counter(6)
        last = made('z', 'update', condition=(('some', 't', ONES), ('some', 'u', ONES)))
        given = Rules(given.schema, list(given.rules) + [last])
        found = fires(given, 'z', [(FIRST, counting(0))])
        self.assertEqual(found[:3], ('fires', FIRST, counting(0)))
        self.assertGreater(len(found[3]), 62)
        self.assertIs(last_fires(given, *found[1:]), True)

    def test_turns_behind_many_rows(self):
        given, call = long_runs(20, 4, 7, [made('z', 'delete', level='statement', table='b')])
        found = fires(given, 'z', [call])
        self.assertEqual(found[:3], ('fires', *call))
        self.assertIs(last_fires(given, *found[1:]), True)

    def test_by_trying_all_choices(self):
        seen = {}
        for seed in range(1500):
            chance = Chance(seed, Schema(2, [('t', ('k', 'v'), 1), ('u', ('a',), 1)]))
            if seed % 2:
                chance.part(chance.random.randint(1, 3))
            else:
                chance.focus(chance.random.randint(1, 4))
            given = chance.any_rules(chance.random.randint(2, 5), 0.2)
            line = list({(chance.any_statement(), chance.database()) for _ in range(chance.random.randint(1, 3))})
            kept = list(line)
            told_by_decide = decided(given, line)[0]
            for name in [rule[0] for rule in given.rules if rule[4:6] != ('ahead', 'statement')]:
                found = fires(given, name, line)
                self.assertEqual(line, kept)
                if told_by_decide[0] == 'endless':
                    self.assertEqual(found, decide(given, line))
                else:
                    wanted = self.first(given, name, line)
                    if wanted is False:
                        break
                    if wanted is None:
                        self.assertEqual(found, ('never', told_by_decide[1]))
                    else:
                        self.assertEqual(found[:3], ('fires', *wanted))
                        self.assertIs(last_fires(given, *found[1:]), True)
                        seen[min(len(found[3]), 6)] = True
                seen[found[0]] = True
        self.assertEqual(set(seen), {'never', 'fires', 'endless', 1, 2, 3, 4, 5, 6})

    def first(self, given, name, line):
        """The first start with a run in which a rule fires; False if there are too many runs."""
        for start in sorted(line, key=start_order):
            runs = naive.all_runs(given, *start)
            if runs is None:
                return False
            if [1 for _, one in runs if name in [fired for fired, _ in one.fired]]:
                return start
        return None

    def test_asked_twice(self):
        given, line = rules(COPY, idle('a', 'u', 'insert')), [(NEW, EMPTY), (DELETE, EMPTY)]
        for name in ('copy', 'a'):
            first = fires(given, name, line)
            again = copy.deepcopy(first)
            if name == 'a':
                first[1][0][2].clear()
            first[-1].clear()
            self.assertEqual(fires(given, name, line), again)
        self.assertEqual(line, [(NEW, EMPTY), (DELETE, EMPTY)])
        line.clear()
        self.assertEqual(fires(given, 'copy', [(NEW, EMPTY), (DELETE, EMPTY)])[0], 'fires')


if __name__ == '__main__':
    unittest.main()
