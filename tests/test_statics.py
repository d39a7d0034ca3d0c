"""[41], [42], [43]: what rules may raise, write and read."""

import unittest

from firingrules.ruleset import Rules
from firingrules.runs import run
from firingrules.schemas import Schema
from firingrules.statics import apart, is_levels, levels, raised, reach, read, written
from firingrules.transactions import transact
from tests.chance import Chance
from tests.support import any_values, nearly, small, told

REFUSE = (('refuse',),)
THREE = [('t', ('k', 'v'), 1), ('u', ('k',), 1), ('w', ('k', 'v', 'x'), 2)]


def three():
    """A schema with three tables."""
    return Schema(2, THREE)


def made(name, table, event, actions=REFUSE, columns=(), when='behind', level='row', condition=()):
    """A rule."""
    return (name, table, event, columns, when, level, condition, tuple(actions))


def inserts(table):
    """An action that inserts zeros."""
    return ('insert', table, (0,) * len(dict([(name, columns) for name, columns, _ in THREE])[table]))


def update(table, *columns):
    """An action that updates columns."""
    return ('update', table, (), tuple([(column, 0) for column in columns]))


def some(table):
    """A condition on a table."""
    return (('some', table, ()),)


class RaisedTest(unittest.TestCase):
    def test_table_and_event(self):
        one = made('one', 't', 'insert', [inserts('u')])
        others = [made('a', 'u', 'insert'), made('b', 'u', 'delete'), made('c', 't', 'insert'), made('d', 'u', 'update'),
                  made('e', 'u', 'insert', level='statement'), made('f', 'u', 'insert', when='late'),
                  made('g', 'u', 'insert', when='ahead'), made('h', 'u', 'insert', when='ahead', level='statement')]
        rules = Rules(three(), [one] + others)
        self.assertEqual(raised(rules, 'one'), ['a', 'e'])
        self.assertEqual([raised(rules, rule[0]) for rule in others], [[]] * 8)

    def test_all_four_actions(self):
        behind = [made('z', 'u', 'insert'), made('y', 'u', 'delete'), made('x', 'u', 'update')]
        for action, names in [(('insert', 'u', (0,)), ['z']), (('offer', 'u', (0,)), ['z']), (('delete', 'u', ()), ['y']),
                              (update('u', 'k'), ['x']), (('refuse',), [])]:
            rules = Rules(three(), behind + [made('one', 't', 'insert', [action])])
            self.assertEqual(raised(rules, 'one'), names)
        both = made('one', 't', 'insert', [('delete', 'u', ()), ('offer', 'u', (1,)), ('refuse',)])
        self.assertEqual(raised(Rules(three(), behind + [both]), 'one'), ['y', 'z'])

    def test_rules_of_every_time(self):
        behind = [made('b', 'u', 'insert'), made('a', 'u', 'insert')]
        for when, wanted in [('behind', ['a', 'b']), ('late', ['a', 'b'])]:
            rules = Rules(three(), behind + [made('one', 't', 'insert', [inserts('u')], when=when)])
            self.assertEqual(raised(rules, 'one'), wanted)
        for action in (('refuse',), ('skip',), ('turn', 'k', 0)):
            rules = Rules(three(), behind + [made('one', 't', 'insert', [action], when='ahead')])
            self.assertEqual(raised(rules, 'one'), [])

    def test_itself(self):
        rules = Rules(three(), [made('a', 't', 'insert', [inserts('t')])])
        self.assertEqual(raised(rules, 'a'), ['a'])

    def test_columns_in_the_sets(self):
        for columns, sets, wanted in [((), ['v'], True), (('k',), ['v'], False), (('v',), ['v'], True),
                                      (('k', 'v'), ['v', 'x'], True), (('x',), ['k', 'v'], False)]:
            for level in ('row', 'statement'):
                rules = Rules(three(), [made('one', 't', 'insert', [update('w', *sets)]),
                                        made('two', 'w', 'update', columns=columns, level=level)])
                self.assertEqual(raised(rules, 'one'), ['two'] if wanted else [])

    def test_columns_that_rules_ahead_turn(self):
        def names(level, *ahead):
            rules = Rules(three(), [made('one', 't', 'insert', [update('w', 'x')]),
                                    made('two', 'w', 'update', columns=('v',), level=level), *ahead])
            return raised(rules, 'one')
        turns = (('turn', 'v', 0),)
        self.assertEqual(names('row'), [])
        self.assertEqual(names('row', made('c', 'w', 'update', turns, when='ahead')), ['two'])
        self.assertEqual(names('row', made('c', 'w', 'update', turns, ('k',), 'ahead')), ['two'])
        self.assertEqual(names('row', made('c', 'w', 'update', (('turn', 'k', 0), ('turn', 'v', 0)), (), 'ahead')), ['two'])
        self.assertEqual(names('statement', made('c', 'w', 'update', turns, when='ahead')), [])
        self.assertEqual(names('row', made('c', 'w', 'update', (('turn', 'k', 0),), when='ahead')), [])
        self.assertEqual(names('row', made('c', 'w', 'insert', turns, when='ahead')), [])
        self.assertEqual(names('row', made('c', 't', 'update', turns, when='ahead')), [])

    def test_a_statement_that_hits_nothing_raises_rules(self):
        rules = Rules(three(), [made('one', 't', 'insert', [('delete', 'u', (('k', 1),))]),
                                made('two', 'u', 'delete', condition=(('same', ('old', 'k'), 0),))])
        self.assertEqual(raised(rules, 'one'), ['two'])


def chain(*links):
    """Rules of which each raises those behind it: tuples of a name and the names of what it raises, by tables."""
    names = 'abcdefgh'
    schema = Schema(2, [('t', ('k', 'v', 'x'), 1), ('u', ('k', 'v', 'x'), 1), ('w', ('k', 'v', 'x'), 1)])
    place = {name: ('tuw'[at // 3], 'kvx'[at % 3]) for at, name in enumerate(names)}
    found = []
    for name, more in links:
        actions = [('update', place[other][0], (), ((place[other][1], 0),)) for other in more]
        found.append(made(name, place[name][0], 'update', actions or REFUSE, (place[name][1],)))
    return Rules(schema, found)


class LevelsTest(unittest.TestCase):
    def test_no_rule_that_is_behind(self):
        self.assertEqual(levels(Rules(three(), [])), ('levels', []))
        rules = Rules(three(), [made('a', 't', 'insert', when='late'), made('b', 't', 'insert', when='ahead')])
        self.assertEqual(levels(rules), ('levels', []))
        self.assertIs(is_levels(rules, []), True)

    def test_the_longest_chain(self):
        self.assertEqual(levels(chain(('a', ''))), ('levels', [('a', 0)]))
        self.assertEqual(levels(chain(('c', 'ba'), ('b', 'a'), ('a', ''))), ('levels', [('a', 0), ('b', 1), ('c', 2)]))
        self.assertEqual(levels(chain(('a', 'be'), ('b', 'c'), ('c', 'd'), ('d', ''), ('e', 'd'))),
                         ('levels', [('a', 3), ('b', 2), ('c', 1), ('d', 0), ('e', 1)]))

    def test_late_rules_do_not_count(self):
        late = made('l', 't', 'insert', [inserts('u')], when='late')
        rules = Rules(three(), [made('a', 'u', 'insert', [update('t', 'k')]), late])
        self.assertEqual(levels(rules), ('levels', [('a', 0)]))
        back = made('b', 't', 'insert', [inserts('t')], when='late')
        self.assertEqual(levels(Rules(three(), [back])), ('levels', []))

    def test_rings(self):
        self.assertEqual(levels(chain(('a', 'a'))), ('ring', ['a']))
        self.assertEqual(levels(chain(('b', 'a'), ('a', 'b'))), ('ring', ['a', 'b']))
        self.assertEqual(levels(chain(('a', 'b'), ('b', 'c'), ('c', 'a'))), ('ring', ['a', 'b', 'c']))
        self.assertEqual(levels(chain(('a', 'c'), ('b', 'a'), ('c', 'b'))), ('ring', ['a', 'c', 'b']))

    def test_the_shortest_ring(self):
        rules = chain(('a', 'b'), ('b', 'c'), ('c', 'a'), ('d', 'e'), ('e', 'd'))
        self.assertEqual(levels(rules), ('ring', ['d', 'e']))
        rules = chain(('a', 'b'), ('b', 'ac'), ('c', 'h'), ('h', 'h'))
        self.assertEqual(levels(rules), ('ring', ['h']))

    def test_the_least_of_the_shortest_rings(self):
        rules = chain(('a', 'ce'), ('c', 'a'), ('e', 'a'), ('b', 'd'), ('d', 'b'))
        self.assertEqual(levels(rules), ('ring', ['a', 'c']))
        rules = chain(('h', 'h'), ('c', 'c'))
        self.assertEqual(levels(rules), ('ring', ['c']))
        rules = chain(('a', 'fd'), ('d', 'b'), ('f', 'b'), ('b', 'a'))
        self.assertEqual(levels(rules), ('ring', ['a', 'd', 'b']))

    def test_by_trying_all_chains(self):
        rings = 0
        for seed in range(300):
            chance = Chance(seed)
            rules = chance.any_rules(chance.random.randint(0, 6))
            names = [rule[0] for rule in rules.rules if rule[4] == 'behind']
            chains, found = [[name] for name in names], []
            level = {name: 0 for name in names}
            while chains:
                line = chains.pop()
                for other in raised(rules, line[-1]):
                    if other == line[0]:
                        found.append(line)
                    if other not in line:
                        chains.append(line + [other])
                        level[line[0]] = max(level[line[0]], len(line))
            if found:
                rings += 1
                self.assertEqual(levels(rules), ('ring', min(found, key=lambda ring: (len(ring), ring))))
            else:
                self.assertEqual(levels(rules), ('levels', sorted(level.items())))
                self.assertIs(is_levels(rules, levels(rules)[1]), True)
        self.assertTrue(50 < rings < 250)


class IsLevelsTest(unittest.TestCase):
    def rules(self):
        """Rules with levels 0, 1, 2 and 0, and a late one."""
        rules = chain(('c', 'ba'), ('b', 'a'), ('a', ''), ('d', ''))
        return Rules(rules.schema, list(rules.rules) + [made('l', 't', 'insert', when='late')])

    def test_good_ones(self):
        rules = self.rules()
        for rows in ([('a', 0), ('b', 1), ('c', 2), ('d', 0)], [('a', 0), ('b', 1), ('c', 2), ('d', 10 ** 30)],
                     [('a', 3), ('b', 7), ('c', 8), ('d', 1)]):
            self.assertIs(is_levels(rules, rows), True)

    def test_levels_that_are_too_small(self):
        rules = self.rules()
        for rows in ([('a', 0), ('b', 0), ('c', 2), ('d', 0)], [('a', 0), ('b', 1), ('c', 1), ('d', 0)],
                     [('a', -1), ('b', 0), ('c', 1), ('d', 0)], [('a', 0), ('b', 1), ('c', 2), ('d', -1)],
                     [('a', 2), ('b', 1), ('c', 3), ('d', 0)]):
            self.assertIs(is_levels(rules, rows), False)

    def test_rows(self):
        rules, rows = self.rules(), [('a', 0), ('b', 1), ('c', 2), ('d', 0)]
        for at in range(4):
            self.assertIs(is_levels(rules, rows[:at] + rows[at + 1:]), False)
            self.assertIs(is_levels(rules, rows[:at] + rows[at:at + 1] + rows[at:]), False)
            for other in nearly(rows[at]):
                good = [repr((rows[at][0], level)) for level in [rows[at][1]] + [1, 2, 3, 4, 10 ** 20] if at in (2, 3)]
                if repr(other) not in good + [repr(rows[at])]:
                    self.assertIs(is_levels(rules, rows[:at] + [other] + rows[at + 1:]), False, other)
        self.assertIs(is_levels(rules, rows[::-1]), False)
        self.assertIs(is_levels(rules, tuple(rows)), False)
        self.assertIs(is_levels(rules, rows + [('l', 0)]), False)
        self.assertIs(is_levels(rules, [list(row) for row in rows]), False)
        self.assertIs(is_levels(rules, [('a', False), ('b', 1), ('c', 2), ('d', 0)]), False)
        self.assertIs(is_levels(rules, [('a', 0), ('b', True), ('c', 2), ('d', 0)]), False)

    def test_any_value(self):
        rules, none = self.rules(), Rules(three(), [])
        for thing in any_values():
            self.assertIs(is_levels(rules, thing), False)
            self.assertIs(is_levels(none, thing), isinstance(thing, list) and len(thing) == 0)
            self.assertIs(is_levels(rules, [thing]), False)

    def test_a_ring_has_no_levels(self):
        rules = chain(('a', 'b'), ('b', 'a'))
        for rows in ([('a', 0), ('b', 1)], [('a', 1), ('b', 0)], [('a', 1), ('b', 1)]):
            self.assertIs(is_levels(rules, rows), False)
        self.assertIs(is_levels(chain(('a', 'a')), [('a', 5)]), False)


class WrittenAndReadTest(unittest.TestCase):
    def test_written(self):
        rules = Rules(three(), [made('a', 't', 'insert', [inserts('u'), ('refuse',)]), made('b', 'u', 'insert', [update('w', 'x')]),
                                made('c', 'w', 'update'), made('d', 't', 'delete', [('delete', 'w', ()), ('delete', 't', ())]),
                                made('e', 'w', 'insert', [inserts('t')], when='late'), made('f', 't', 'insert', when='ahead')])
        wanted = {'a': ['u', 'w'], 'b': ['w'], 'c': [], 'd': ['t', 'w'], 'e': ['t', 'u', 'w'], 'f': []}
        for name, tables in wanted.items():
            self.assertEqual(written(rules, name), tables)

    def test_read(self):
        def tables(*more, when='behind', condition=()):
            one = made('one', 't', 'insert', [inserts('u')], when=when, condition=condition)
            return read(Rules(three(), [one, *more]), 'one')
        self.assertEqual(tables(), ['u'])
        self.assertEqual(tables(condition=some('w')), ['u', 'w'])
        self.assertEqual(tables(condition=(('no', 't', ()), ('same', 0, 0))), ['t', 'u'])
        self.assertEqual(tables(when='late'), ['t', 'u'])
        self.assertEqual(tables(made('b', 'u', 'insert', condition=some('w'))), ['u', 'w'])
        self.assertEqual(tables(made('b', 'u', 'delete', condition=some('w'))), ['u'])
        self.assertEqual(tables(made('b', 'u', 'insert', when='late', condition=some('w'))), ['u'])
        for event in ('insert', 'delete', 'update'):
            for level in ('row', 'statement'):
                ahead = made('b', 'u', event, when='ahead', level=level, condition=some('w'))
                self.assertEqual(tables(ahead), ['u', 'w'])
                self.assertEqual(tables(ahead[:1] + ('t',) + ahead[2:]), ['u'])
        raised_by_late = made('b', 'u', 'insert', [inserts('w')])
        self.assertEqual(tables(raised_by_late, when='late'), ['t', 'u', 'w'])

    def test_rules_ahead_and_late_ones(self):
        rules = Rules(three(), [made('a', 't', 'insert', when='ahead', condition=some('w')),
                                made('b', 't', 'insert', when='ahead', level='statement', condition=some('u')),
                                made('c', 'w', 'delete', when='late'), made('d', 'w', 'delete')])
        self.assertEqual([read(rules, name) for name in 'abcd'], [['w'], ['u'], ['w'], []])
        self.assertEqual([written(rules, name) for name in 'abcd'], [[]] * 4)

    def test_by_some_steps_also_in_a_ring(self):
        rules = Rules(three(), [made('a', 't', 'insert', [inserts('u')]), made('b', 'u', 'insert', [inserts('w')]),
                                made('c', 'w', 'insert', [inserts('t')], condition=some('t'))])
        for name in 'abc':
            self.assertEqual(written(rules, name), ['t', 'u', 'w'])
            self.assertEqual(read(rules, name), ['t', 'u', 'w'])


class ApartTest(unittest.TestCase):
    def check(self, one, other, wanted, *more):
        rules = Rules(three(), [one, other, *more])
        self.assertIn((one[0], other[0]), rules.competing())
        self.assertIs(apart(rules, one[0], other[0]), wanted)
        self.assertIs(apart(rules, other[0], one[0]), wanted)

    def test_behind(self):
        writer = made('a', 't', 'insert', [inserts('u')])
        self.check(writer, made('b', 't', 'insert'), True)
        self.check(writer, made('b', 't', 'insert', [inserts('w')]), True)
        self.check(writer, made('b', 't', 'insert', [inserts('u')]), False)
        self.check(writer, made('b', 't', 'insert', condition=some('u')), False)
        self.check(writer, made('b', 't', 'insert', condition=some('w')), True)
        self.check(writer, made('b', 't', 'insert', [inserts('w')]), False,
                   made('c', 'w', 'insert', condition=some('u')))
        self.check(writer, made('b', 't', 'insert', [inserts('w')]), False, made('c', 'u', 'insert', [inserts('w')]))
        self.check(writer, made('b', 't', 'insert', [inserts('w')]), False,
                   made('c', 'w', 'delete', when='ahead', level='statement', condition=some('u')))
        self.check(writer, made('b', 't', 'insert', condition=some('t')), True)

    def ahead(self, name, actions, columns=(), condition=()):
        """A rule that is ahead of updates of w."""
        return made(name, 'w', 'update', actions, columns, 'ahead', 'row', condition)

    def test_ahead_by_columns(self):
        turn = self.ahead('a', [('turn', 'v', 0)])
        self.check(turn, self.ahead('b', [('turn', 'x', 0)]), True)
        self.check(turn, self.ahead('b', [('turn', 'v', 0)]), False)
        self.check(turn, self.ahead('b', [('turn', 'x', ('new', 'v'))]), False)
        self.check(turn, self.ahead('b', [('turn', 'x', ('old', 'v'))]), True)
        self.check(turn, self.ahead('b', [('turn', 'x', 1)], ('v',)), False)
        self.check(turn, self.ahead('b', [('turn', 'x', 1)], ('k', 'x')), True)
        for test in [('same', ('new', 'v'), 0), ('other', 1, ('new', 'v')), ('some', 'w', (('x', ('new', 'v')),)),
                     ('no', 't', (('k', 0), ('v', ('new', 'v'))))]:
            self.check(turn, self.ahead('b', [('turn', 'x', 1)], condition=(test,)), False)
        for test in [('same', ('old', 'v'), ('new', 'x')), ('some', 'w', (('v', 0),)), ('no', 't', (('v', ('new', 'k')),))]:
            self.check(turn, self.ahead('b', [('turn', 'x', 1)], condition=(test,)), True)

    def test_ahead_by_skip_and_refuse(self):
        skip, refuse, both = [('skip',)], [('refuse',)], [('skip',), ('refuse',)]
        for one, other, wanted in [(skip, skip, True), (refuse, refuse, True), (skip, refuse, False), (both, skip, False),
                                   (both, refuse, False), (both, both, False), (skip, [('turn', 'v', 0)], True)]:
            self.check(self.ahead('a', one), self.ahead('b', other), wanted)


class ReachTest(unittest.TestCase):
    def test_least_lists(self):
        rules = Rules(three(), [made('a', 't', 'insert', [inserts('u')])])
        self.assertEqual(reach(rules, 't'), (['t', 'u'], ['t', 'u']))
        self.assertEqual(reach(rules, 'u'), (['u'], ['u']))
        self.assertEqual(reach(Rules(three(), []), 'w'), (['w'], ['w']))

    def test_all_times_and_events(self):
        for when in ('behind', 'late'):
            for event in ('insert', 'delete', 'update'):
                rules = Rules(three(), [made('a', 't', event, [('delete', 'w', ())], when=when, level='statement')])
                self.assertEqual(reach(rules, 't'), (['t', 'w'], ['t', 'w']))
        for when in ('ahead', 'behind', 'late'):
            rules = Rules(three(), [made('a', 't', 'delete', when=when, condition=some('u'))])
            self.assertEqual(reach(rules, 't'), (['t'], ['t', 'u']))
            self.assertEqual(reach(rules, 'w'), (['w'], ['w']))

    def test_by_some_steps(self):
        rules = Rules(three(), [made('a', 't', 'insert', [inserts('u')]), made('b', 'u', 'delete', [inserts('w')], when='late'),
                                made('c', 'w', 'insert', when='ahead', condition=some('t'))])
        self.assertEqual(reach(rules, 't'), (['t', 'u', 'w'], ['t', 'u', 'w']))
        self.assertEqual(reach(rules, 'u'), (['u', 'w'], ['t', 'u', 'w']))
        self.assertEqual(reach(rules, 'w'), (['w'], ['t', 'w']))

    def test_other_tables_stay_and_equal_reads_give_equal_writes(self):
        done = {}
        for seed in range(1200):
            chance = Chance(seed, three())
            chance.focus(chance.random.randint(1, 3))
            rules = chance.any_rules(chance.random.randint(1, 4), whens=('ahead', 'behind', 'late'))
            statement, one, other = chance.any_statement(), chance.database(), chance.database()
            write, seen = reach(rules, statement[1])
            mixed = tuple([a if name in seen else b for name, a, b in zip(rules.schema.names, one, other)])
            first = told(transact, rules, one, [statement])
            second = told(transact, rules, mixed, [statement])
            self.assertEqual(first[0], second[0])
            if first[0] == 'returned':
                self.assertEqual(first[1][0], second[1][0])
                for name, before, a, b in zip(rules.schema.names, one, first[1][1], second[1][1]):
                    if name in write:
                        self.assertEqual(a, b)
                    else:
                        self.assertEqual(a, before)
                done[len(seen), first[1][1] != one] = True
        self.assertTrue({(1, True), (2, True), (3, True)} <= set(done))


class UsesTest(unittest.TestCase):
    def test_only_written_tables_change_and_only_read_ones_count(self):
        """[6]: what a rule writes and reads, by runs of the statements of its actions."""
        for seed in range(600):
            chance = Chance(seed, three())
            rules = chance.any_rules(3)
            one, other = chance.database(), chance.database()
            for rule in rules.rules:
                actions = [action for action in rule[7] if rule[4:6] == ('behind', 'statement') and len(action) > 1]
                for action in actions:
                    write, seen = written(rules, rule[0]), read(rules, rule[0])
                    mixed = tuple([a if name in seen else b for name, a, b in zip(rules.schema.names, one, other)])
                    first, second = told(run, rules, action, one), told(run, rules, action, mixed)
                    self.assertEqual(first[0], second[0])
                    if first[0] == 'returned' and first[1] is not None:
                        for name, before, a, b in zip(rules.schema.names, one, first[1], second[1]):
                            self.assertEqual(a, b if name in write else before)

    def test_nothing_is_changed(self):
        rules = chain(('c', 'ba'), ('b', 'a'), ('a', ''))
        kept = Rules(rules.schema, rules.rules)
        for _ in range(2):
            for call, given in [(raised, ('c',)), (written, ('c',)), (read, ('c',)), (levels, ()), (reach, ('t',))]:
                first = call(rules, *given)
                again = call(rules, *given)
                self.assertEqual(first, again)
                for part in first if isinstance(first, tuple) else [first]:
                    if isinstance(part, list):
                        part.append('more')
                self.assertEqual(call(rules, *given), again)
        rows = levels(rules)[1]
        is_levels(rules, rows)
        self.assertEqual(rows, levels(rules)[1])
        self.assertEqual(rules, kept)

    def test_small(self):
        self.assertEqual(reach(Rules(small(), []), 't'), (['t'], ['t']))


if __name__ == '__main__':
    unittest.main()
