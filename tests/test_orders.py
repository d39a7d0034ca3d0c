"""[70], [71], [72], [9], [10]: whether each start has one end, and with which least order."""

import copy
import itertools
import unittest

from firingrules.errors import RuleError
from firingrules.orders import barring, is_least, least, one_end
from firingrules.ruleset import Rules
from firingrules.runs import play
from firingrules.schemas import Schema
from firingrules.tables import decide, starts
from tests import naive
from tests.chance import Chance
from tests.spread import decided, start_order
from tests.support import REFUSE, any_values, made, nearly, small, told

NEW = ('insert', 't', (0, 1))
DELETE = ('delete', 't', ())
EMPTY = ((), ())


def marks(name, value, **more):
    """A rule that leaves its mark in u alone, so that the last one tells."""
    return made(name, actions=[('delete', 'u', ()), ('offer', 'u', (value,))], level='statement', **more)


def idle(name, **more):
    """A rule that never fires."""
    return made(name, condition=(('same', 0, 1),), **more)


def free():
    """Two rules whose order matters behind inserts."""
    return Rules(small(), [marks('a', 0), marks('b', 1)])


def loops(condition=()):
    """Two rules of a delete, that begins within itself if go has its turn ahead of stop."""
    go = made('go', 'delete', [DELETE], level='statement', condition=(('no', 'u', ()),) + condition)
    stop = made('stop', 'delete', [('offer', 'u', (0,))], level='statement')
    return Rules(small(), [go, stop])


def orders_above(rules):
    """All orders that contain the present one, with the fewest pairs first, and the least first."""
    both = [pair for pair in rules.competing() if pair[0] < pair[1]]
    found = set()
    for choice in itertools.product([0, 1, 2], repeat=len(both)):
        pairs = [pair[::-1] if take == 2 else pair for pair, take in zip(both, choice) if take]
        try:
            found.add(tuple(rules.ordered(pairs).pairs))
        except RuleError:
            pass
    return sorted(found, key=lambda order: (len(order), order))


def is_good(rules, line):
    """Whether all runs end and each start has one end."""
    found = decide(rules, line, most=4000)
    return found[0] == 'ends' and all([len(row[2]) == 1 for row in found[1] if row[:2] in line])


class OneEndTest(unittest.TestCase):
    def test_one_end_for_each_start(self):
        rules = free().ordered([('a', 'b')])
        self.assertEqual(one_end(rules), ('one', decide(rules)[1]))
        self.assertEqual(one_end(free(), []), ('one', []))
        self.assertEqual(one_end(free(), [(DELETE, EMPTY)]), ('one', [(DELETE, EMPTY, [EMPTY], 0)]))
        self.assertEqual(one_end(Rules(small(), [])), ('one', decide(Rules(small(), []))[1]))

    def test_two_ends_of_a_call_that_is_no_start(self):
        # What a call within may end with is made equal behind it.
        rules = Rules(small(), [marks('a', 0), marks('b', 1),
                                made('c', 'delete', [NEW, ('delete', 'u', ()), ('delete', 't', (('k', 0),))],
                                     level='statement', condition=(('some', 'u', ()),))])
        found = one_end(rules, [(DELETE, ((), ((0,),)))])
        self.assertEqual(found[0], 'one')
        self.assertEqual({len(row[2]) for row in found[1]}, {1, 2})

    def check_parted(self, rules, line, first):
        found = one_end(rules, line)
        self.assertEqual(found[:3], ('parted', *first))
        ends = [play(rules, *first, turns) for turns in found[3:]]
        self.assertEqual([end[0] for end in ends], ['end', 'end'])
        self.assertNotEqual(ends[0], ends[1])

    def test_the_first_start_with_two(self):
        self.check_parted(free(), None, (('insert', 't', (0, 0)), EMPTY))
        line = [(NEW, ((), ((0,), (1,)))), (NEW, ((), ((1,),))), (('insert', 't', (1, 0)), ((), ((1,),))),
                (NEW, (((0, 0),), ()))]
        self.check_parted(free(), line, (NEW, ((), ((1,),))))
        self.check_parted(free(), line[::-1], (NEW, ((), ((1,),))))
        refusing = Rules(small(), [marks('a', 0), made('b', level='statement', condition=(('some', 'u', ()),))])
        self.check_parted(refusing, [(NEW, EMPTY)], (NEW, EMPTY))

    def test_endless_goes_ahead(self):
        rules = Rules(small(), list(free().rules) + list(loops().rules))
        line = [(NEW, EMPTY), (DELETE, (((0, 0), (1, 0)), ()))]
        self.assertEqual(one_end(rules, line[:1])[:3], ('parted', NEW, EMPTY))
        found = one_end(rules, line)
        self.assertEqual(found[:3], ('endless', *line[1]))
        self.assertEqual(play(rules, *found[1:]), ('endless',))
        self.assertEqual(one_end(rules)[:3], decide(rules)[:3])

    def test_most(self):
        for rules, line in [(free(), None), (free(), [(NEW, EMPTY)]), (free().ordered([('a', 'b')]), [(NEW, EMPTY)]),
                            (loops(), None), (loops(), [(DELETE, (((0, 0),), ()))])]:
            _, due = decided(rules, starts(small()) if line is None else line)
            whole = told(one_end, rules, line, most=4000)
            self.assertEqual(whole[0], 'returned')
            self.assertEqual(told(one_end, rules, line, most=due), whole)
            self.assertEqual(told(one_end, rules, line, most=due - 1), ('TooMany', {'limit': due - 1}))
        self.assertEqual(told(one_end, free(), starts(small()) + [(DELETE, EMPTY)])[0], 'returned')
        wide = Rules(Schema(4, [('t', ('k', 'v', 'x'), 3)]), [])
        self.assertEqual(told(one_end, wide), ('TooMany', {'limit': 1000}))

    def test_by_trying_all_choices(self):
        seen = {}
        for seed in range(500):
            chance = Chance(seed, Schema(2, [('t', ('k', 'v'), 1), ('u', ('a',), 1)]))
            if seed % 2:
                chance.part(1)
            else:
                chance.focus(1)
            rules = chance.any_rules(chance.random.randint(2, 5), 0.1, whens=('behind',))
            line = sorted({(chance.any_statement(), chance.database()) for _ in range(3)}, key=start_order)
            all_of_them = [naive.all_runs(rules, *start, most=150) for start in line]
            if None not in all_of_them:
                found = one_end(rules, line)
                ends = [{out for out, _ in runs} for runs in all_of_them]
                endless = [start for start, outs in zip(line, ends) if ('Within',) in outs]
                parted = [start for start, outs in zip(line, ends) if len(outs) > 1]
                if endless:
                    self.assertEqual(found[:3], ('endless', *endless[0]))
                elif parted:
                    self.check_parted(rules, line, parted[0])
                else:
                    self.assertEqual(found, ('one', decide(rules, line)[1]))
                seen[found[0]] = seen.get(found[0], 0) + 1
        self.assertTrue(len(seen) == 3 and min(seen.values()) > 8, seen)


class BarringTest(unittest.TestCase):
    def test_behind_the_statement(self):
        rules = Rules(small(), [marks('a', 0), marks('b', 1), marks('c', 0)])
        for line in itertools.permutations('abc'):
            wanted = sorted([(two, one) for one, two in itertools.combinations(line, 2)])
            self.assertEqual(barring(rules, NEW, EMPTY, list(line)), wanted)
            self.assertEqual(barring(rules, NEW, EMPTY, list(line[:2])), wanted)
            self.assertEqual(barring(rules, NEW, EMPTY, list(line[:1])), sorted([(other, line[0]) for other in line[1:]]))
        self.assertEqual(barring(rules, NEW, EMPTY, []), [])

    def test_ahead_of_rows(self):
        rules = Rules(small(), [made('s', 'delete', [('skip',)], when='ahead', condition=(('same', ('old', 'k'), 0),)),
                                idle('i', event='delete', when='ahead')])
        database = (((0, 0), (1, 0)), ())
        self.assertEqual(barring(rules, DELETE, database, ['s']), [('i', 's')])
        self.assertEqual(barring(rules, DELETE, database, ['s', 'i', 's']), [('i', 's'), ('s', 'i')])
        self.assertEqual(barring(rules, DELETE, database, ['s', 's', 'i']), [('i', 's')])
        self.assertEqual(barring(rules, DELETE, database, ['i', 's', 'i', 's']), [('s', 'i')])

    def test_behind_rows_also_several_times(self):
        rules = Rules(small(), [idle('b', event='delete'), idle('a', event='delete')])
        database = (((0, 0), (1, 0)), ())
        self.assertEqual(barring(rules, DELETE, database, ['a', 'b', 'a', 'b']), [('b', 'a')])
        self.assertEqual(barring(rules, DELETE, database, ['a', 'b', 'b', 'a']), [('a', 'b'), ('b', 'a')])
        self.assertEqual(barring(rules, DELETE, database, ['a', 'b', 'b']), [('a', 'b'), ('b', 'a')])

    def test_a_rule_that_does_not_stand_there(self):
        rules = Rules(small(), [idle('a', event='update', columns=('k',)), idle('b', event='update', columns=('v',)),
                                idle('c', event='update', level='statement'), idle('d', event='delete'), idle('e')])
        update = ('update', 't', (), (('v', 1),))
        self.assertEqual(barring(rules, update, (((0, 0),), ()), ['b', 'c']), [])
        both = ('update', 't', (('k', 0),), (('k', 1), ('v', 1)))
        self.assertEqual(barring(rules, both, (((0, 0),), ()), ['b', 'a', 'c']), [('a', 'b')])

    def test_places_within(self):
        rules = Rules(small(), [marks('a', 0), idle('b', level='statement'), idle('x', table='u'), idle('y', table='u')])
        self.assertEqual(barring(rules, NEW, EMPTY, ['a', 'y', 'x', 'b']), [('b', 'a'), ('x', 'y')])
        self.assertEqual(barring(rules, NEW, EMPTY, ['b', 'a', 'x', 'y']), [('a', 'b'), ('y', 'x')])
        self.assertEqual(barring(rules, NEW, EMPTY, ['b', 'a']), [('a', 'b')])

    def test_a_run_that_never_ends(self):
        self.assertEqual(barring(loops(), DELETE, EMPTY, ['go']), [('stop', 'go')])
        self.assertEqual(play(loops(), DELETE, EMPTY, ['go']), ('endless',))

    def test_the_refusal_counts(self):
        rules = Rules(small(), [made('a'), made('b')])
        self.assertEqual(barring(rules, NEW, EMPTY, ['b']), [('a', 'b')])
        self.assertEqual(barring(Rules(small(), []), NEW, (((0, 0),), ()), []), [])

    def test_an_order_allows_a_run_if_none_of_its_pairs_bars_it(self):
        seen = {}
        for seed in range(250):
            chance = Chance(seed)
            chance.part(chance.random.randint(1, 2))
            rules = chance.any_rules(chance.random.randint(2, 4), chance.random.choice([0, 0.3]))
            statement, database = chance.any_statement(), chance.database()
            runs = naive.all_runs(rules, statement, database, most=40) or []
            for _, one in runs:
                bars = barring(rules, statement, database, one.turns)
                self.assertEqual(bars, sorted(one.bars))
                for order in orders_above(rules) if len(rules.competing()) <= 6 else []:
                    allowed = told(play, rules.ordered(order), statement, database, one.turns)[0] == 'returned'
                    self.assertEqual(allowed, not set(bars) & set(order))
                    seen[allowed] = seen.get(allowed, 0) + 1
        self.assertGreater(min(seen.values()), 100)


class LeastTest(unittest.TestCase):
    def check(self, rules, line, wanted):
        """Check what least tells, and its rows."""
        pairs, rows = least(rules, line)
        self.assertEqual(pairs, wanted)
        given = starts(rules.schema) if line is None else line
        self.assertIs(is_least(rules, given, pairs, rows), True)
        self.check_rows(rules, given, pairs, rows)
        if wanted is not None:
            self.assertTrue(is_good(rules.ordered(pairs), given))
        return rows

    def check_rows(self, rules, line, pairs, rows):
        """Check the rows by what stands about them."""
        orders = [order for order, _ in rows]
        self.assertEqual(orders, sorted(orders))
        self.assertEqual(len({tuple(order) for order in orders}), len(orders))
        if pairs != rules.pairs:
            self.assertIn(rules.pairs, orders)
        for order, witness in rows:
            ordered = rules.ordered(order)
            self.assertEqual(ordered.pairs, order)
            self.assertTrue(set(rules.pairs) <= set(order))
            self.assertIn(witness[:2], line)
            played = [play(ordered, *witness[:2], turns) for turns in witness[2:]]
            if len(played) == 1:
                self.assertEqual(played, [('endless',)])
            else:
                self.assertEqual([one[0] for one in played], ['end', 'end'])
                self.assertNotEqual(played[0], played[1])
            for turns in witness[2:]:
                for pair in barring(ordered, *witness[:2], turns):
                    if pair[::-1] not in order:
                        more = ordered.ordered([pair]).pairs
                        self.assertTrue(more in orders or pairs is not None and (len(more), more) >= (len(pairs), pairs))

    def test_the_present_order_is_good(self):
        for rules in (Rules(small(), []), free().ordered([('b', 'a')]), Rules(small(), [idle('a'), idle('b')])):
            self.assertIn(self.check(rules, None, rules.pairs), ([],))
        self.check(free(), [], [])
        self.check(free(), [(DELETE, EMPTY)], [])

    def test_one_pair(self):
        self.check(free(), None, [('a', 'b')])
        self.check(Rules(small(), [marks('b', 1), marks('a', 0)]), None, [('a', 'b')])
        refusing = Rules(small(), [made('z', level='statement', condition=(('no', 'u', ()),)), marks('b', 1)])
        self.check(refusing, None, [('b', 'z')])

    def test_several_pairs(self):
        rules = Rules(small(), [marks('c', 0), marks('b', 1), marks('a', 0)])
        self.check(rules, None, [('b', 'a')])
        self.check(rules.ordered([('a', 'b')]), None, [('a', 'b'), ('c', 'b')])
        schema = Schema(3, [('t', ('k',), 1), ('u', ('k',), 1)])
        rules = Rules(schema, [marks('c', 0), marks('b', 1), marks('a', 2)])
        self.check(rules, None, [('a', 'b'), ('c', 'b')])

    def test_pairs_with_idle_rules_are_left_out(self):
        rules = Rules(small(), [marks('a', 0), idle('m', level='statement'), marks('z', 1)])
        self.check(rules, None, [('a', 'z')])
        # With ("a", "z") there would be ("a", "m"), too.
        self.check(rules.ordered([('z', 'm')]), None, [('z', 'a'), ('z', 'm')])

    def test_orders_of_two_places(self):
        rules = Rules(small(), list(free().rules) + [marks('c', 0, event='delete'), marks('d', 1, event='delete')])
        self.check(rules, None, [('a', 'b'), ('c', 'd')])

    def test_an_order_that_ends_runs(self):
        self.check(loops(), [(DELETE, EMPTY)], [('stop', 'go')])
        rules = Rules(small(), list(free().rules) + list(loops().rules))
        self.check(rules, [(DELETE, EMPTY), (NEW, EMPTY)], [('a', 'b'), ('stop', 'go')])
        self.check(loops().ordered([('go', 'stop')]), [(DELETE, EMPTY)], None)

    def test_none_is_good(self):
        loop = Rules(small(), [made('loop', 'delete', [DELETE], level='statement')])
        self.assertEqual(least(loop)[0], None)
        rows = self.check(loop, None, None)
        self.assertEqual(len(rows), 1)
        self.assertEqual(rows[0][0], [])
        self.assertEqual(len(rows[0][1]), 3)
        rules = Rules(small(), list(free().rules) + list(loop.rules))
        self.check(rules, None, None)

    def test_the_example_of_references(self):
        tree = Schema(2, [('a', ('k',), 1), ('b', ('k', 'a'), 1), ('c', ('k', 'a', 'b'), 1)])
        one = ('one', 'a', 'delete', (), 'behind', 'row', (), (('delete', 'b', (('a', ('old', 'k')),)),))
        two = ('two', 'b', 'delete', (), 'behind', 'row', (), (('delete', 'c', (('b', ('old', 'k')),)),))
        three = ('three', 'a', 'delete', (), 'behind', 'row', (('some', 'c', (('a', ('old', 'k')),)),), REFUSE)
        whole = (((0,),), ((0, 0),), ((0, 0, 0),))
        self.check(Rules(tree, [one, two, three]), [(('delete', 'a', ()), whole)], [('one', 'three')])

    def test_most(self):
        for rules, line in [(free(), [(NEW, EMPTY)]), (free(), None), (loops(), [(DELETE, EMPTY)])]:
            given = starts(small()) if line is None else line
            pairs, rows = least(rules, line, most=4000)
            due = max([decided(rules.ordered(order), given)[1] for order in [pairs] + [order for order, _ in rows]])
            self.assertEqual(least(rules, line, most=due), (pairs, rows))
            self.assertEqual(told(least, rules, line, most=due - 1), ('TooMany', {'limit': due - 1}))
        wide = Rules(Schema(4, [('t', ('k', 'v', 'x'), 3)]), [])
        self.assertEqual(told(least, wide), ('TooMany', {'limit': 1000}))

    def test_more_orders_than_most(self):
        # Two orders of twelve rules matter, but runs are barred by pairs with the idle ones, too.
        rules = [idle(name, level='statement') for name in 'abcdefgh'] + [marks('k', 0), marks('l', 1)]
        line = [(NEW, EMPTY)]
        pairs, rows = least(Rules(small(), rules), line)
        self.assertEqual(pairs, [('k', 'l')])
        self.assertGreater(len(rows), 20)
        self.assertEqual(told(least, Rules(small(), rules), line, most=len(rows) - 1), ('TooMany', {'limit': len(rows) - 1}))

    def test_a_later_order_that_is_due_for_more(self):
        # The present order is endless from the first start; the order behind it looks at all of them.
        loop = loops()
        line = [(DELETE, EMPTY), (DELETE, ((), ((1,),))), (NEW, ((), ((1,),))), (NEW, (((0, 0),), ((1,),)))]
        first = decided(loop, line)[1]
        due = decided(loop.ordered([('stop', 'go')]), line)[1]
        self.assertLess(first, due)
        self.assertEqual(told(least, loop, line, most=due)[1][0], [('stop', 'go')])
        self.assertEqual(told(least, loop, line, most=due - 1), ('TooMany', {'limit': due - 1}))

    def test_by_trying_all_orders(self):
        seen = {}
        for seed in range(350):
            chance = Chance(seed, Schema(2, [('t', ('k', 'v'), 1), ('u', ('a',), 1)]))
            if seed % 3:
                chance.part(1)
            else:
                chance.focus(chance.random.randint(1, 2))
            rules = chance.any_rules(chance.random.randint(2, 4), chance.random.choice([0, 0, 0.3]),
                                     whens=('behind', 'behind', 'behind', 'ahead'))
            line = sorted({(chance.any_statement(), chance.database()) for _ in range(chance.random.randint(1, 4))})
            if len(rules.competing()) <= 12:
                good = [list(order) for order in orders_above(rules) if is_good(rules.ordered(order), line)]
                rows = self.check(rules, line, good[0] if good else None)
                seen[len(good[0]) - len(rules.pairs) if good else None, min(len(rows), 3)] = True
        self.assertTrue({(0, 0), (1, 1), (1, 2), (None, 1), (None, 3)} <= set(seen), seen)


class IsLeastTest(unittest.TestCase):
    def setUp(self):
        self.rules = Rules(small(), [marks('c', 0), marks('b', 1), marks('a', 0)])
        self.line = [(NEW, EMPTY), (NEW, ((), ((1,),))), (DELETE, EMPTY)]
        self.pairs, self.rows = least(self.rules, self.line)

    def check(self, thing, wanted=False, pairs=None):
        self.assertIs(is_least(self.rules, self.line, pairs or self.pairs, thing), wanted)

    def put(self, at, order=None, witness=None):
        """The rows with another order or witness in one of them."""
        row = (self.rows[at][0] if order is None else order, self.rows[at][1] if witness is None else witness)
        return self.rows[:at] + [row] + self.rows[at + 1:]

    def test_right_ones(self):
        self.assertGreater(len(self.rows), 2)
        self.check(self.rows, True)
        for at in range(len(self.rows)):
            witness = self.rows[at][1]
            self.check(self.put(at, witness=witness[:2] + (witness[3], witness[2])), True)
            self.check(self.put(at), True)
        self.assertIs(is_least(free(), [(DELETE, EMPTY)], [], []), True)
        self.assertIs(is_least(free(), [], [], []), True)

    def test_the_present_order_is_among_them_unless_it_is_told(self):
        ordered = free().ordered([('a', 'b')])
        self.assertIs(is_least(ordered, [(NEW, EMPTY)], [('a', 'b')], []), True)
        self.assertIs(is_least(free(), [(NEW, EMPTY)], [('a', 'b')], []), False)
        self.assertIs(is_least(free(), [(NEW, EMPTY)], None, []), False)
        self.assertIs(is_least(free(), [(NEW, EMPTY)], [], []), True)
        rows = least(free(), [(NEW, EMPTY)])[1]
        self.assertIs(is_least(free(), [(NEW, EMPTY)], [], rows), True)

    def test_rows_left_out_doubled_and_exchanged(self):
        for at, row in enumerate(self.rows):
            self.check(self.rows[:at] + self.rows[at + 1:])
            self.check(self.rows[:at + 1] + self.rows[at:])
            for other in range(at):
                swapped = list(self.rows)
                swapped[at], swapped[other] = swapped[other], swapped[at]
                self.check(swapped)
            self.check(self.rows[:at] + [list(row)] + self.rows[at + 1:])
            self.check(self.rows[:at] + [row + (None,)] + self.rows[at + 1:])
            self.check(self.rows[:at] + [row[:1]] + self.rows[at + 1:])
        self.check(tuple(self.rows))

    def test_orders(self):
        for at, (order, _) in enumerate(self.rows):
            self.check(self.put(at, tuple(order)))
            self.check(self.put(at, order + [('a', 'c')]))
            self.check(self.put(at, order[1:] + order[:1]), len(order) < 2)
            self.check(self.put(at, order + order[-1:]), order == [])
            self.check(self.put(at, [list(pair) for pair in order]), order == [])
            for cut in range(len(order)):
                self.check(self.put(at, order[:cut] + order[cut + 1:]))
        self.check(self.put(0, [('a', 'a')]))
        self.check(self.put(0, [('a', 'b'), ('b', 'a')]))
        self.check(self.put(0, [('a', 'x')]))
        self.check(self.put(0, [('a', 'b'), ('b', 'c')]))
        self.check(self.put(0, [None]))
        self.check(self.put(0, [('a', 'b', 'c')]))
        for pair in [(1, 2), ([], []), ('a', []), ('a', None), ('a', {}), (True, False), ('a',), ()]:
            self.check(self.put(0, [pair]))

    def test_an_order_that_does_not_contain_the_present_one(self):
        ordered = self.rules.ordered([('b', 'a')])
        pairs, rows = least(ordered, self.line)
        self.assertIs(is_least(ordered, self.line, pairs, rows), True)
        self.assertIs(is_least(ordered, self.line, pairs, self.rows[:1] + rows), False)
        self.assertIs(is_least(ordered, self.line, pairs, self.rows), False)

    def test_witnesses(self):
        for at, (_, witness) in enumerate(self.rows):
            statement, database, one, other = witness
            for thing in [list(witness), witness[:3], witness[:2], witness + (one,), (statement, database, one, one),
                          (statement, database, one[:-1], other), (statement, database, one + ['a'], other),
                          (statement, database, one, other[1:]), (statement, database, tuple(one), other),
                          (statement, database, one, [True]), (statement, database, one, [['a']]), (statement, database, [], []),
                          (statement, database, one, 'abc'), (statement, database, one[::-1], one[::-1]),
                          (DELETE, EMPTY, [], []), (DELETE, EMPTY, one, other), (NEW, (((0, 0),), ()), one, other),
                          (('insert', 't', (1, 1)), database, one, other), (list(statement), database, one, other),
                          (('insert', 't', (0, True)), database, one, other), (('insert', 't', (False, 1)), database, one, other),
                          (statement, list(database), one, other), (None, None, one, other), (), 0]:
                with self.subTest(thing=thing):
                    self.check(self.put(at, witness=thing), False)
            self.check(self.put(at, witness=(NEW, ((), ((1,),)), one, other)), True)
            self.check(self.put(at, witness=(NEW, ((), ((True,),)), one, other)), False)
            for thing in [(statement, database, 0, other), (statement, database, one, {0: 'a'}), (statement, database, None, None)]:
                with self.subTest(thing=thing):
                    self.check(self.put(at, witness=thing), False)

    def test_starts(self):
        self.assertIs(is_least(self.rules, self.line[1:], self.pairs, self.rows),
                      all([row[1][:2] != self.line[0] for row in self.rows]))
        self.assertIs(is_least(self.rules, self.line[2:], self.pairs, self.rows), False)
        self.assertIs(is_least(self.rules, self.line + starts(small()), self.pairs, self.rows), True)
        self.assertIs(is_least(self.rules, [], self.pairs, self.rows), False)

    def test_told_pairs_of_another_order(self):
        orders = orders_above(self.rules)
        told_at = orders.index(tuple(self.pairs))
        for at, order in enumerate(orders):
            # Rows that reach up to the told order show nothing of orders behind it.
            wanted = is_least(self.rules, self.line, list(order), self.rows)
            if at <= told_at:
                self.assertIs(wanted, True)
        last = list(orders[-1])
        self.assertIs(is_least(self.rules, self.line, last, self.rows), False)
        self.assertIs(is_least(self.rules, self.line, None, self.rows), False)

    def test_none(self):
        loop = Rules(small(), [made('loop', 'delete', [DELETE], level='statement')])
        rows = [([], (DELETE, EMPTY, ['loop']))]
        self.assertIs(is_least(loop, [(DELETE, EMPTY)], None, rows), True)
        self.assertIs(is_least(loop, [(DELETE, EMPTY)], [], rows), True)
        for turns in ([], ['loop', 'loop'], ['x'], ('loop',), None):
            self.assertIs(is_least(loop, [(DELETE, EMPTY)], None, [([], (DELETE, EMPTY, turns))]), False)
        self.assertIs(is_least(loop, [(DELETE, EMPTY)], None, [([], (DELETE, EMPTY, ['loop'], ['loop']))]), False)
        self.assertIs(is_least(free(), [(NEW, EMPTY)], None, [([], (NEW, EMPTY, ['a', 'b']))]), False)
        both = loops()
        rows = least(both, [(DELETE, EMPTY)])[1]
        self.assertIs(is_least(both, [(DELETE, EMPTY)], [('stop', 'go')], rows), True)
        # The order that the row leads to has as many pairs, and is a list behind this one.
        self.assertIs(is_least(both, [(DELETE, EMPTY)], [('go', 'stop')], rows), True)
        self.assertIs(is_least(both, [(DELETE, EMPTY)], None, rows), False)

    def test_any_value(self):
        for thing in any_values():
            self.check(thing, False)
            self.check([thing], False)
            self.check(self.rows + [thing], False)
            self.check(self.put(0, witness=(NEW, EMPTY, thing, self.rows[0][1][2])), False)
        for other in nearly(tuple([NEW, EMPTY])):
            witness = self.rows[0][1]
            if isinstance(other, tuple) and repr(other) not in [repr(start) for start in self.line]:
                self.check(self.put(0, witness=other + witness[2:]), False)


class MorePairsTest(unittest.TestCase):
    def test_the_same_ends_or_fewer(self):
        """[9]: with more pairs no more ends; if all competing rules are in order, each call has one run."""
        fewer = 0
        for seed in range(300):
            chance = Chance(seed, Schema(2, [('t', ('k', 'v'), 1), ('u', ('a',), 1)]))
            chance.part(1)
            rules = chance.any_rules(4, 0)
            line = list(rules.names)
            chance.random.shuffle(line)
            competing = rules.competing()
            whole = [pair for pair in itertools.combinations(line, 2) if pair in competing]
            some = rules.ordered([pair for pair in whole if chance.random.random() < 0.3])
            total = rules.ordered(whole)
            given = sorted({(chance.any_statement(), chance.database()) for _ in range(3)})
            for start in given:
                found = [decide(one, [start]) for one in (rules, some, total)]
                ends = [{row[:2]: row[2] for row in one[1]} if one[0] == 'ends' else None for one in found]
                for one, other in zip(ends, ends[1:]):
                    if one is not None:
                        self.assertTrue(set(other) <= set(one))
                        self.assertTrue(all([set(other[call]) <= set(one[call]) for call in other]))
                        fewer += other != one
                runs = naive.all_runs(total, *start)
                self.assertEqual(len(runs), 1)
                if ends[2] is not None:
                    self.assertEqual([len(one) for one in ends[2].values()], [1] * len(ends[2]))
        self.assertGreater(fewer, 10)

    def test_asked_twice(self):
        rules = Rules(small(), [marks('c', 0), marks('b', 1), marks('a', 0)])
        line = [(NEW, ((), ((1,),))), (DELETE, EMPTY), (NEW, EMPTY)]
        kept = list(line)
        for call in (least, one_end):
            first = call(rules, line)
            again = copy.deepcopy(first)
            self.assertEqual(call(rules, line), again)
            first[-1].clear()
            if call is least:
                first[0].clear()
            self.assertEqual(call(rules, line), again)
        pairs, rows = least(rules, line)
        told_pairs, told_rows = copy.deepcopy(pairs), copy.deepcopy(rows)
        turns = ['b', 'a', 'c']
        first = barring(rules, NEW, EMPTY, turns)
        first.append('more')
        self.assertEqual(barring(rules, NEW, EMPTY, turns), [('a', 'b'), ('c', 'a'), ('c', 'b')])
        self.assertIs(is_least(rules, line, pairs, rows), True)
        self.assertEqual((pairs, rows, turns, line), (told_pairs, told_rows, ['b', 'a', 'c'], kept))
        self.assertEqual(rules.pairs, [])


if __name__ == '__main__':
    unittest.main()
