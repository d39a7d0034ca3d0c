"""[60], [61], [62]: tables of calls, what they tell of all starts, and how many rules fire."""

import copy
import random
import unittest

from firingrules.bodies import body
from firingrules.ruleset import Rules
from firingrules.runs import play
from firingrules.schemas import Schema
from firingrules.statements import single
from firingrules.tables import decide, firings, is_table, longest, starts
from tests import naive
from tests.chance import Chance
from tests.spread import decided, start_order
from tests.support import any_values, ascending, large, made, offer, small, told, true_for_one
from tests.worlds import FIRST, ONES, ZEROS, counter, counting, long_runs, wide

NEW = ('insert', 't', (0, 1))
DELETE = ('delete', 't', ())


def some(table, *where):
    """A condition on a table."""
    return (('some', table, where),)


COPY = made('copy', actions=[('offer', 'u', (('new', 'k'),))], condition=(('same', ('new', 'v'), 1),))
LOCK = made('lock', condition=some('u'))
LOOP = made('loop', 'delete', [DELETE], level='statement')


class StartsTest(unittest.TestCase):
    def test_in_their_order(self):
        schema = small()
        for statements in (None, [], [NEW], [NEW, DELETE], [DELETE, NEW, ('update', 't', (), (('v', 0),))]):
            chosen = single(schema) if statements is None else statements
            wanted = [(statement, database) for database in schema.databases() for statement in sorted(chosen)]
            self.assertEqual(starts(schema, statements), wanted)
            self.assertEqual(wanted, sorted(wanted, key=start_order))

    def test_too_many(self):
        schema = small()
        for many, statements in [(14 * 36, None), (36, [NEW]), (72, [NEW, DELETE])]:
            self.assertEqual(len(starts(schema, statements, most=many)), many)
            self.assertEqual(len(starts(schema, statements, most=4000)), many)
            self.assertEqual(told(starts, schema, statements, most=many - 1), ('TooMany', {'limit': many - 1}))
        self.assertEqual(told(starts, large()), ('TooMany', {'limit': 1000}))
        self.assertEqual(told(starts, large(), [NEW], most=1), ('TooMany', {'limit': 1}))
        self.assertEqual(starts(large(), [], most=1), [])
        three = Schema(2, [('t', ('k', 'v', 'x'), 2), ('u', ('k',), 1)])
        self.assertEqual(three.many, 324)
        three_starts = [('delete', 'u', ()), ('delete', 't', ()), ('offer', 'u', (0,))]
        self.assertEqual(len(starts(three, three_starts)), 972)
        self.assertEqual(told(starts, three, three_starts + [('offer', 'u', (1,))]), ('TooMany', {'limit': 1000}))

    def test_the_list_stays(self):
        statements = [NEW, DELETE]
        first = starts(small(), statements)
        again = list(first)
        first.clear()
        self.assertEqual(statements, [NEW, DELETE])
        self.assertEqual(starts(small(), statements), again)


class DecideTest(unittest.TestCase):
    def test_a_table_of_the_starts_and_the_calls_that_come(self):
        empty = small().empty
        none = Rules(small(), [])
        self.assertEqual(decide(none, []), ('ends', []))
        self.assertEqual(decide(none, [(NEW, empty)]), ('ends', [(NEW, empty, [(((0, 1),), ())], 0)]))
        both = Rules(small(), [COPY, LOCK])
        call = (offer(0), (((0, 1),), ()))
        end = (((0, 1),), ((0,),))
        self.assertEqual(decide(both, [(NEW, empty)]), ('ends', [(NEW, empty, [None, end], 1), (*call, [end], 0)]))
        self.assertEqual(decide(both, [(DELETE, empty)]), ('ends', [(DELETE, empty, [empty], 0)]))
        self.assertEqual(decide(both, [(NEW, empty), call])[1], decide(both, [(NEW, empty)])[1])

    def test_least_heights(self):
        rules = Rules(small(), [made('a', actions=[offer(0)]), made('b', table='u', actions=[offer(1), ('delete', 't', ())]),
                                made('c', 'delete', [('delete', 'u', ())])])
        found = decide(rules, [(NEW, small().empty)])[1]
        heights = {(statement, database): height for statement, database, _, height in found}
        self.assertEqual(heights[(NEW, small().empty)], 4)
        self.assertEqual(sorted(heights.values()), [0, 0, 0, 1, 2, 3, 4])

    def test_all_starts(self):
        for rules in ([], [COPY], [COPY, LOCK], [made('a', 'delete', [('delete', 'u', ())])]):
            rules = Rules(small(), rules)
            found = decide(rules)
            self.assertEqual(found, decide(rules, starts(small())))
            self.assertEqual(found[0], 'ends')
            self.assertIs(is_table(rules, starts(small()), found[1]), True)
            self.assertEqual(found, decided(rules, starts(small()))[0])

    def test_starts_in_any_order(self):
        rules = Rules(small(), [COPY, LOCK])
        line = starts(small(), [NEW, DELETE])
        random.Random(1).shuffle(line)
        self.assertEqual(decide(rules, line), decide(rules, sorted(line, key=start_order)))
        rules = Rules(small(), [LOOP, made('other', actions=[NEW], condition=some('u'), level='statement')])
        self.assertEqual(decide(rules, line)[:3], ('endless', DELETE, small().empty))
        self.assertEqual(decide(rules, line[::-1])[:3], ('endless', DELETE, small().empty))

    def test_the_first_endless_start(self):
        loop = made('loop', 'delete', [DELETE], level='statement', condition=some('u', ('k', 1)) + some('t'))
        keep = made('keep', 'delete', [('skip',)], when='ahead')
        rules = Rules(small(), [loop, keep])
        found = decide(rules)
        first = (('delete', 't', (('k', 0),)), (((0, 0),), ((1,),)))
        self.assertEqual(found[:3], ('endless', *first))
        self.assertEqual(play(rules, *first, found[3]), ('endless',))
        line = [start for start in starts(small()) if start != first]
        second = (('delete', 't', (('k', 1),)), first[1])
        self.assertEqual(decide(rules, line)[:3], ('endless', *second))

    def test_endless_by_statements_that_hit_nothing(self):
        found = decide(Rules(small(), [LOOP]))
        self.assertEqual(found[:3], ('endless', ('delete', 't', (('k', 0),)), small().empty))
        self.assertEqual(play(Rules(small(), [LOOP]), *found[1:]), ('endless',))

    def test_a_ring_that_ends(self):
        there = made('there', actions=[offer(0)])
        back = made('back', table='u', actions=[('offer', 't', (0, 0))])
        self.assertEqual(decide(Rules(small(), [there, back]))[0], 'ends')
        levels = [rule[:5] + ('statement',) + rule[6:] for rule in (there, back)]
        self.assertEqual(decide(Rules(small(), levels))[0], 'endless')

    def test_endless_in_some_runs_alone(self):
        # Only if stop has its turn behind go does the call begin within itself.
        go = made('go', 'delete', [DELETE], level='statement', condition=(('no', 'u', ()),))
        stop = made('stop', 'delete', [offer(0)], level='statement')
        free = Rules(small(), [stop, go])
        found = decide(free, [(DELETE, small().empty)])
        self.assertEqual(found[0], 'endless')
        self.assertEqual(play(free, *found[1:]), ('endless',))
        ordered = free.ordered([('stop', 'go')])
        self.assertEqual(decide(ordered, [(DELETE, small().empty)])[0], 'ends')

    def test_the_turn_list_goes_on_behind_calls_that_are_over(self):
        rules = Rules(small(), [made('a', actions=[offer(0), ('delete', 't', ())], level='statement'),
                                made('b', table='u'[:1], actions=[offer(1)], condition=(('same', ('new', 'k'), 0),)),
                                made('c', 'delete', [('delete', 't', (('k', 1),))], level='statement')])
        found = decide(rules, [(NEW, small().empty)])
        self.assertEqual(found[0], 'endless')
        self.assertEqual(play(rules, *found[1:]), ('endless',))
        self.assertEqual(found[3][:4], ['a', 'b', 'b', 'c'])

    def test_no_rules_and_an_empty_list(self):
        self.assertEqual(decide(Rules(large(), []), []), ('ends', []))
        self.assertEqual(decide(Rules(small(), [LOOP]), []), ('ends', []))
        self.assertEqual(decide(Rules(large(), []), [], most=1), ('ends', []))


class MostTest(unittest.TestCase):
    def check(self, rules, line, due):
        """Check that so many calls are due for the starts."""
        whole = told(decide, rules, line, most=4000)
        self.assertEqual(whole[0], 'returned')
        self.assertEqual(told(decide, rules, line, most=due), whole)
        self.assertEqual(told(decide, rules, line, most=due + 1), whole)
        for most in {1, due // 2, due - 1} - {0, due}:
            self.assertEqual(told(decide, rules, line, most=most), ('TooMany', {'limit': most}))

    def test_starts_and_calls_that_come(self):
        both = Rules(small(), [COPY, LOCK])
        self.check(both, [(NEW, small().empty)], 2)
        self.check(both, [(NEW, small().empty), (offer(0), (((0, 1),), ()))], 2)
        self.check(both, [(NEW, small().empty), (DELETE, small().empty)], 3)
        self.check(both, [(DELETE, small().empty)], 1)
        self.check(both, None, 528)

    def test_endless(self):
        rules = Rules(small(), [LOOP])
        self.check(rules, None, 2)
        self.check(rules, [(DELETE, small().empty)], 1)
        self.check(rules, [(DELETE, (((0, 0),), ()))], 2)
        self.check(rules, [(DELETE, (((0, 0),), ())), (NEW, small().empty), (DELETE, (((1, 0),), ((0,),)))], 3)

    def test_calls_behind_one_that_begins_within_itself(self):
        # The inner call may end by stop, and the run goes on to what follows in the outer one.
        go = made('go', 'delete', [DELETE, ('delete', 'u', ())], level='statement', condition=(('no', 'u', ()),))
        stop = made('stop', 'delete', [offer(0)], level='statement')
        rules = Rules(small(), [stop, go])
        found, due = decided(rules, [(DELETE, small().empty)])
        self.assertEqual(found, ('endless', DELETE, small().empty))
        self.assertEqual(due, 3)
        self.check(rules, [(DELETE, small().empty)], due)

    def test_very_many_databases(self):
        none = Rules(large(), [])
        self.assertGreater(large().many, 10 ** 20)
        self.assertEqual(told(decide, none), ('TooMany', {'limit': 1000}))
        self.assertEqual(told(decide, none, most=4000), ('TooMany', {'limit': 4000}))
        loop = made('loop', 'delete', [('delete', 'c', ())], level='statement', table='c')
        rules = Rules(large(), [loop])
        found = decide(rules)
        self.assertEqual(found[:3], ('endless', ('delete', 'c', (('q', 0),)), large().empty))
        index = sorted(single(large())).index(found[1])
        self.check(rules, None, index + 2)
        line = [(DELETE[:1] + ('c', ()), (((0, 0, 0),), (), ((1, 1),))), (('delete', 'a', ()), (((0, 0, 0),), (), ()))]
        self.assertEqual(decide(none, line), ('ends', sorted([(line[0][0], line[0][1], [(((0, 0, 0),), (), ())], 0),
                                                              (*line[1], [large().empty], 0)])))

    def test_the_first_databases_of_very_many(self):
        # The rule is endless with these rows alone; all starts ahead of that are counted.
        schema = Schema(2, [('a', ('x', 'y', 'z'), 3), ('b', ('x', 'y'), 1), ('c', ('x', 'y', 'z'), 2)])
        self.check_first(schema, (((0, 0, 1),), (), ()))
        self.check_first(schema, ((), ((0, 1),), ()))
        schema = Schema(2, [('a', ('x',), 1), ('b', ('x', 'y'), 1), ('c', ('x', 'y'), 2)])
        for database in [((), ((0, 1), (1, 0)), ()), (((1,),), ((0, 1),), ()), (((0,), (1,)), ((1, 1),), ())]:
            self.check_first(schema, database)

    def check_first(self, schema, database):
        """Check rules by which deletes of c never end if all rows of a database are there."""
        tests = [(name, tuple(zip(schema.columns(name), row))) for name, rows in zip(schema.names, database) for row in rows]
        loop = made('loop', 'delete', [('delete', 'c', ())], level='statement', table='c',
                    condition=tuple([('some', name, where) for name, where in tests]))
        rules = Rules(schema, [loop])
        ahead = [one for one in schema.databases(most=10 ** 6) if start_order((0, one)) < start_order((0, database))]
        first = [statement for statement in single(schema) if statement[:2] == ('delete', 'c')][0]
        due = len(ahead) * len(single(schema)) + single(schema).index(first) + 2
        self.assertEqual(decide(rules, most=4000)[:3], ('endless', first, database))
        self.check(rules, None, due)

    def test_by_chance(self):
        seen = {}
        for seed in range(400):
            chance = Chance(seed, Schema(2, [('t', ('k', 'v'), 1), ('u', ('a',), 1)]))
            chance.focus(chance.random.randint(1, 3))
            rules = chance.any_rules(chance.random.randint(2, 5))
            line = sorted({(chance.any_statement(), chance.database()) for _ in range(chance.random.randint(1, 4))})
            chance.random.shuffle(line)
            found, due = decided(rules, line)
            self.assertEqual(decide(rules, line, most=4000)[:len(found) if found[0] == 'endless' else 2], found)
            self.check(rules, line, due)
            seen[found[0], min(due, 9)] = True
        self.assertTrue({('endless', 5), ('endless', 9), ('ends', 5), ('ends', 9)} <= set(seen), seen)


class IsTableTest(unittest.TestCase):
    def setUp(self):
        self.rules = Rules(small(), [COPY, LOCK, made('b', table='u', actions=[offer(1)])])
        self.starts = [(NEW, small().empty), (DELETE, (((0, 0),), ()))]
        self.table = decide(self.rules, self.starts)[1]

    def check(self, thing, wanted=False):
        self.assertIs(is_table(self.rules, self.starts, thing), wanted)

    def test_right_ones(self):
        self.check(self.table, True)
        self.check(decide(self.rules, starts(small()) + self.starts)[1], True)
        self.assertIs(is_table(self.rules, [], []), True)
        self.check([], False)
        self.check([row[:3] + (row[3] + 5,) for row in self.table], True)
        self.check([row[:3] + (row[3] * 10 ** 20,) for row in self.table], True)

    def test_rows_left_out_doubled_and_exchanged(self):
        for at, row in enumerate(self.table):
            self.check(self.table[:at] + self.table[at + 1:])
            self.check(self.table[:at + 1] + self.table[at:])
            self.check(self.table[:at] + [row[:3] + (row[3] + 9,)] + self.table[at:])
            for other in range(at):
                swapped = list(self.table)
                swapped[at], swapped[other] = swapped[other], swapped[at]
                self.check(swapped)

    def test_heights(self):
        top = max([row[3] for row in self.table])
        self.assertEqual(top, 3)
        for at, row in enumerate(self.table):
            def put(height, at=at, row=row):
                return self.table[:at] + [row[:3] + (height,)] + self.table[at + 1:]
            self.check(put(row[3]), True)
            self.check(put(row[3] - 1))
            self.check(put(-1))
            for other in (True, False, None, '1', (row[3],), [row[3]]):
                self.check(put(other))
            within = [inner for inner in self.table if row[:2] in body(self.rules, *inner[:2], {one[:2]: one[2] for one in self.table})[1]]
            self.check(put(row[3] + 1), not within)

    def test_ends(self):
        for at, row in enumerate(self.table):
            def put(ends, at=at, row=row):
                return self.table[:at] + [row[:2] + (ends, row[3])] + self.table[at + 1:]
            self.check(put(list(row[2])), True)
            self.check(put(row[2] + [row[2][-1]]))
            self.check(put(row[2][1:]))
            self.check(put(tuple(row[2])))
            self.check(put([list(end) if end else end for end in row[2]]), row[2] == [None])
            self.check(put(row[2] + [(((1, 1),), ((1,),))]))
            for other in (None, 0, True, 'ends', {None: 0}, {end: 0 for end in row[2]}):
                self.check(put(other))
            self.check(put([None] + row[2]))
            if len(row[2]) > 1:
                self.check(put(row[2][::-1]))
        ones = [row for row in self.table if len(row[2]) == 2]
        self.assertEqual(ones[0][2][0], None)

    def test_true_for_one(self):
        for at, row in enumerate(self.table):
            self.check(self.table[:at] + [true_for_one(row)] + self.table[at + 1:], repr(true_for_one(row)) == repr(row))

    def test_calls(self):
        for at, row in enumerate(self.table):
            for other in [list(row), row + (0,), row[:3], (row[0], list(row[1]), *row[2:]), (list(row[0]), *row[1:]), (None, *row[1:]),
                          (('delete', 'x', ()), *row[1:]), (row[0], ((), (), ()), *row[2:]), (row[1], row[0], *row[2:]), None, ()]:
                self.check(self.table[:at] + [other] + self.table[at + 1:])
        self.check(tuple(self.table))
        self.check(dict(enumerate(self.table)))

    def test_a_start_that_is_not_there(self):
        self.assertIs(is_table(self.rules, self.starts + [(DELETE, small().empty)], self.table), False)
        self.assertIs(is_table(self.rules, self.starts[:1], self.table), True)

    def test_calls_that_begin_within_themselves_have_no_table(self):
        rules = Rules(small(), [LOOP])
        for ends in ([], [small().empty], [None]):
            for height in (0, 1, 5):
                self.assertIs(is_table(rules, [], [(DELETE, small().empty, ends, height)]), False)

    def test_any_value(self):
        for thing in any_values():
            self.check(thing)
            self.check([thing])
            self.check(self.table + [thing])
            self.check([thing] + self.table)

    def test_ends_of_the_table_are_taken_for_those_of_calls(self):
        # Both rows tell a wrong end, but the upper one as the lower one has it.
        wrong = (((1, 1),), ())
        table = [(NEW, small().empty, [wrong], 1), (offer(0), (((0, 1),), ()), [wrong], 0)]
        rules = Rules(small(), [COPY])
        self.assertIs(is_table(rules, [], table), False)
        self.assertIs(is_table(rules, [], decide(rules, [(NEW, small().empty)])[1]), True)

    def test_calls_within_that_are_not_there(self):
        # A run does not go on behind such a call, so the ends are right; but it has to stand there.
        rules = Rules(small(), [COPY])
        self.assertIs(is_table(rules, [], [(NEW, small().empty, [], 5)]), False)
        either = Rules(small(), [COPY, made('no', level='row')])
        self.assertIs(is_table(either, [], [(NEW, small().empty, [None], 5)]), False)
        self.assertIs(is_table(either, [], decide(either, [(NEW, small().empty)])[1]), True)

    def test_by_chance(self):
        for seed in range(150):
            chance = Chance(seed, Schema(2, [('t', ('k', 'v'), 1), ('u', ('a',), 1)]))
            chance.part(2)
            rules = chance.any_rules(4)
            line = sorted({(chance.any_statement(), chance.database()) for _ in range(3)})
            found = decide(rules, line)
            if found[0] == 'ends':
                self.assertIs(is_table(rules, line, found[1]), True)
                kept = copy.deepcopy(found[1])
                is_table(rules, line, found[1])
                self.assertEqual(found[1], kept)


class FiringsTest(unittest.TestCase):
    def test_no_rules(self):
        none = Rules(small(), [])
        table = decide(none)[1]
        self.assertEqual(firings(none, table), [(*row[:2], [(end, 0) for end in row[2]]) for row in table])
        self.assertEqual(longest(none, table, 0), (0, []))
        self.assertEqual(firings(none, []), [])

    def test_rules_that_refuse_and_rules_ahead(self):
        rules = Rules(small(), [made('a', actions=[('turn', 'v', 1)], when='ahead'), made('b'),
                                made('c', actions=[offer(0)]), made('d', when='ahead', condition=(('same', 0, 1),))])
        table = decide(rules, [(NEW, small().empty)])[1]
        self.assertEqual(firings(rules, table)[0], (NEW, small().empty, [(None, 3)]))
        many, turns = longest(rules, table, 0)
        self.assertEqual(many, 3)
        self.assertEqual(play(rules, NEW, small().empty, turns), ('end', None))
        self.assertLess(turns.index('c'), turns.index('b'))
        no = Rules(small(), [made('a', when='ahead'), made('b', actions=[('skip',)], when='ahead')])
        table = decide(no, [(NEW, small().empty)])[1]
        self.assertEqual(firings(no, table), [(NEW, small().empty, [(None, 1), (small().empty, 1)])])

    def test_refused_by_a_statement_rule_or_by_keys(self):
        lock = made('lock', when='ahead', level='statement', condition=some('u'))
        rules = Rules(small(), [lock, made('a', actions=[('turn', 'k', 0)], when='ahead')])
        start = [(NEW, ((), ((0,),))), (('insert', 't', (1, 1)), (((0, 0),), ()))]
        table = decide(rules, start)[1]
        self.assertEqual(firings(rules, table), [(*start[0], [(None, 0)]), (*start[1], [(None, 1)])])

    def test_the_greatest_number(self):
        # flag lets b fire or not, but the end is the same.
        rules = Rules(small(), [made('a', actions=[offer(0)]), made('b', actions=[offer(0)], condition=(('no', 'u', ()),)),
                                made('c', actions=[('delete', 't', (('v', 0),))], condition=some('u'))])
        table = decide(rules, [(NEW, small().empty)])[1]
        end = (((0, 1),), ((0,),))
        found = [row for row in firings(rules, table) if row[0] == NEW]
        self.assertEqual(found, [(NEW, small().empty, [(end, 3)])])
        at = [row[0] for row in table].index(NEW)
        many, turns = longest(rules, table, at)
        self.assertEqual((many, turns), (3, ['b', 'a', 'c']))

    def test_with_those_in_the_calls_within(self):
        rules = Rules(small(), [made('a', actions=[offer(0), offer(1)]), made('b', table='u', actions=[('delete', 't', ())]),
                                made('c', 'delete', [('delete', 'u', (('k', 0),))])])
        table = decide(rules, [(NEW, small().empty)])[1]
        counts = {row[:2]: row[2] for row in firings(rules, table)}
        self.assertEqual(counts[(NEW, small().empty)], [(((), ((1,),)), 4)])

    def test_rows_and_ends_in_order(self):
        rules = Rules(small(), [COPY, LOCK, made('b', table='u', actions=[offer(1)])])
        table = decide(rules)[1]
        found = firings(rules, table)
        self.assertEqual([row[:2] for row in found], [row[:2] for row in table])
        self.assertEqual([[end for end, _ in row[2]] for row in found], [row[2] for row in table])

    def test_other_heights_mean_nothing(self):
        rules = Rules(small(), [COPY, LOCK, made('b', table='u', actions=[offer(1)])])
        table = decide(rules)[1]
        high = [row[:3] + (row[3] * 7 + 3,) for row in table]
        self.assertEqual(firings(rules, high), firings(rules, table))
        self.assertEqual(longest(rules, high, 3)[0], longest(rules, table, 3)[0])

    def test_by_trying_all_choices(self):
        seen = {}
        for seed in range(700):
            chance = Chance(seed, Schema(2, [('t', ('k', 'v'), 1), ('u', ('a',), 1)]) if seed % 2 else None)
            if seed % 3:
                chance.part(chance.random.randint(1, 2))
            else:
                chance.focus(chance.random.randint(1, 4))
            rules = chance.any_rules(chance.random.randint(1, 6))
            statement, database = chance.any_statement(), chance.database()
            runs = naive.all_runs(rules, statement, database)
            if runs is not None:
                found = decide(rules, [(statement, database)])
                if 'Within' in [out[0] for out, _ in runs]:
                    self.assertEqual(found[:3], ('endless', statement, database))
                    self.assertEqual(play(rules, *found[1:]), ('endless',))
                    seen['endless'] = True
                else:
                    seen.update(self.check_runs(rules, statement, database, runs, found))
        self.assertTrue({'endless', 'ends 2', 'height 3', 'many 4'} <= set(seen), seen)

    def check_runs(self, rules, statement, database, runs, found):
        """Check a table and its firings by all runs of a start."""
        self.assertEqual(found[0], 'ends')
        table = found[1]
        at = [row[:2] for row in table].index((statement, database))
        _, _, ends, height = table[at]
        self.assertEqual(ends, ascending({out[1] for out, _ in runs}))
        self.assertEqual(height + 1, max([one.deepest for _, one in runs]))
        self.assertEqual({row[:2] for row in table}, {(statement, database)} | {call for _, one in runs for call in one.calls})
        most = {}
        for out, one in runs:
            most[out[1]] = max(most.get(out[1], 0), len(one.fired))
        self.assertEqual(firings(rules, table)[at], (statement, database, [(end, most[end]) for end in ends]))
        many, turns = longest(rules, table, at)
        self.assertEqual(many, max(most.values()))
        self.assertEqual([len(one.fired) for _, one in runs if one.turns == turns], [many])
        return {'ends {}'.format(len(ends)): True, 'height {}'.format(height): True, 'many {}'.format(many): True}


class SizesTest(unittest.TestCase):
    def test_calls_that_stand_in_one_another_several_hundred_deep(self):
        for pairs in ((), [('a', 'b'), ('b', 'c'), ('c', 'd'), ('d', 'e'), ('e', 'f'), ('f', 'g'), ('g', 'h'), ('h', 'i')]):
            rules = counter(9, pairs)
            found = decide(rules, [(FIRST, counting(0))])
            self.assertEqual(found[0], 'ends')
            table = found[1]
            at = [row[:2] for row in table].index((FIRST, counting(0)))
            self.assertEqual(table[at][2:], ([counting(511)], 510))
            self.assertEqual(len(table), 581)
            self.assertIs(is_table(rules, [(FIRST, counting(0))], table), True)
            self.assertEqual(firings(rules, table)[at][2], [(counting(511), 510)])
            self.assertEqual(told(longest, rules, table, at), ('TooMany', {'limit': 4000}))

    def test_a_long_turn_list(self):
        rules = counter(8)
        table = decide(rules, [(FIRST, counting(0))])[1]
        at = [row[:2] for row in table].index((FIRST, counting(0)))
        many, turns = longest(rules, table, at)
        self.assertEqual((many, len(turns)), (254, 8 * 255))
        self.assertEqual(play(rules, FIRST, counting(0), turns), ('end', counting(255)))

    def test_a_turn_list_of_4000_turns(self):
        rules, call = long_runs(40, 4, 8)
        table = decide(rules, [call])[1]
        at = [row[:2] for row in table].index(call)
        many, turns = longest(rules, table, at)
        self.assertEqual((many, len(turns)), (160, 4000))
        self.assertEqual(play(rules, *call, turns), ('end', ((), ())))

    def test_an_endless_run_that_is_deep(self):
        rules = counter(8)
        again = ('again', 't', 'update', (), 'behind', 'row',
                 (('some', 't', ONES), ('some', 'u', ONES), ('some', 'w', ONES[1:])),
                 (('update', 'w', (), ZEROS), ('update', 'u', (), ZEROS), ('update', 't', (), ZEROS)))
        rules = Rules(rules.schema, list(rules.rules) + [again])
        found = decide(rules, [(FIRST, counting(0))])
        self.assertEqual(found[:3], ('endless', FIRST, counting(0)))
        self.assertEqual(play(rules, *found[1:]), ('endless',))
        self.assertGreater(len(found[3]), 250)

    def test_many_places_with_twelve_rules(self):
        rules = wide(12)
        start = (('delete', 'b', ()), (tuple(rules.schema.rows('b')), ()))
        table = decide(rules, [start], most=4000)[1]
        at = [row[:2] for row in table].index(start)
        self.assertEqual(table[at][2:], ([((), ((0,), (1,), (2,), (3,)))], 1))
        many, turns = longest(rules, table, at)
        self.assertEqual((many, len(turns)), (768, 768))

    def test_twelve_rules_at_all_starts(self):
        rules = Rules(small(), [made('abcdefghijkl'[at], actions=[offer(at % 2)]) for at in range(12)])
        found = decide(rules)
        self.assertEqual(found[0], 'ends')
        self.assertEqual({len(row[2]) for row in found[1]}, {1})
        self.assertEqual(max([many for row in firings(rules, found[1]) for _, many in row[2]]), 12)


class AskedTwiceTest(unittest.TestCase):
    def test_it(self):
        rules = Rules(small(), [COPY, LOCK, made('b', table='u', actions=[offer(1)])])
        line = starts(small(), [NEW, DELETE])[::-1]
        kept = list(line)
        first = decide(rules, line)
        again = copy.deepcopy(first)
        self.assertEqual(decide(rules, line), again)
        for row in first[1]:
            row[2].clear()
        first[1].clear()
        self.assertEqual(decide(rules, line), again)
        self.assertEqual(line, kept)
        table = again[1]
        at = [row[0] for row in table].index(NEW)
        for call in (lambda: firings(rules, table), lambda: [longest(rules, table, at)]):
            told_first, told_again = call(), call()
            self.assertEqual(told_first, told_again)
            for part in told_first:
                if isinstance(part, tuple):
                    part[-1].clear()
            self.assertEqual(call(), told_again)
        self.assertEqual(table, decide(rules, line)[1])
        loop = Rules(small(), [LOOP])
        first = decide(loop)
        first[3].clear()
        self.assertEqual(decide(loop)[3], ['loop', 'loop'])
        line.clear()
        self.assertEqual(decide(rules, kept), again)

    def test_the_order_in_which_rules_stand_means_nothing(self):
        for seed in range(60):
            chance = Chance(seed)
            chance.part(2)
            rules = chance.any_rules(4)
            line = sorted({(chance.any_statement(), chance.database()) for _ in range(3)})
            other = Rules(rules.schema, rules.rules[::-1], rules.pairs)
            one, two = decide(rules, line), decide(other, line)
            self.assertEqual(one[:3] if one[0] == 'endless' else one, two[:3] if two[0] == 'endless' else two)
            if one[0] == 'ends':
                self.assertEqual(firings(rules, one[1]), firings(other, one[1]))


if __name__ == '__main__':
    unittest.main()
