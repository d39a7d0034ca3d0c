"""[34], [3], [4]: sets of rules with an order."""

import itertools
import random
import unittest

from firingrules.errors import RuleError
from firingrules.ruleset import Rules
from firingrules.schemas import Schema
from tests.support import any_values, large, small, told

REFUSE = (('refuse',),)
COPY = ('copy', 't', 'insert', (), 'behind', 'row', (('same', ('new', 'v'), 1),), (('offer', 'u', (('new', 'k'),)),))
LOCK = ('lock', 't', 'insert', (), 'behind', 'row', (('some', 'u', ()),), REFUSE)
MANY = 'abcdefghijklmnop'


def made(name, event='insert', when='behind', level='row', table='t'):
    """A rule."""
    return (name, table, event, (), when, level, (), REFUSE)


def several(many):
    """Rules a, b, c .. that all compete."""
    return [made(name) for name in MANY[:many]]


def brute_closed(pairs):
    """The pairs of names with a way from the one to the other."""
    pairs = set(pairs)
    while True:
        more = {(a, d) for a, b in pairs for c, d in pairs if b == c} | pairs
        if more == pairs:
            return sorted(pairs)
        pairs = more


def brute_ring(pairs, names):
    """The least of the shortest rings, by all lists of names."""
    for many in range(2, len(names) + 1):
        for ring in itertools.permutations(sorted(names), many):
            if all([(one, other) in pairs for one, other in zip(ring, ring[1:] + ring[:1])]):
                return list(ring)
    return None


class RulesTest(unittest.TestCase):
    def test_properties(self):
        for given in ([COPY, LOCK], (COPY, LOCK)):
            for pairs in ([('lock', 'copy')], (('lock', 'copy'),)):
                rules = Rules(small(), given, pairs)
                self.assertEqual(rules.schema, small())
                self.assertEqual(rules.rules, (COPY, LOCK))
                self.assertIsInstance(rules.rules, tuple)
                self.assertEqual(rules.names, ('copy', 'lock'))
                self.assertIsInstance(rules.names, tuple)
                self.assertEqual(rules.pairs, [('lock', 'copy')])
                self.assertIsInstance(rules.pairs, list)
                self.assertEqual(len(rules), 2)

    def test_without_rules_and_without_pairs(self):
        for rules in (Rules(small(), []), Rules(small(), (), ()), Rules(small(), [], [])):
            self.assertEqual([rules.rules, rules.names, rules.pairs, len(rules), rules.competing()], [(), (), [], 0, []])
        self.assertEqual(Rules(small(), [COPY]).pairs, [])

    def test_the_order_is_closed_and_ascending(self):
        rules = Rules(small(), several(4), [('d', 'c'), ('c', 'a'), ('a', 'b')])
        self.assertEqual(rules.pairs, [('a', 'b'), ('c', 'a'), ('c', 'b'), ('d', 'a'), ('d', 'b'), ('d', 'c')])
        rules = Rules(small(), several(4), [('c', 'd'), ('a', 'b'), ('a', 'b')])
        self.assertEqual(rules.pairs, [('a', 'b'), ('c', 'd')])

    def test_orders_of_every_kind(self):
        chance = random.Random(1)
        for _ in range(200):
            names = list(MANY[:chance.randint(2, 12)])
            line = chance.sample(names, len(names))
            pairs = [(line[one], line[other]) for one in range(len(line)) for other in range(one + 1, len(line))
                     if chance.random() < 0.3]
            chance.shuffle(pairs)
            rules = Rules(small(), several(len(names)), pairs)
            self.assertEqual(rules.pairs, brute_closed(pairs))

    def test_the_caller_changes_lists(self):
        given, pairs = [COPY, LOCK], [('lock', 'copy')]
        rules = Rules(small(), given, pairs)
        given.append(1)
        pairs.clear()
        rules.pairs.append(1)
        rules.competing().clear()
        self.assertEqual([rules.rules, rules.pairs, len(rules)], [(COPY, LOCK), [('lock', 'copy')], 2])
        self.assertEqual(rules.competing(), [('copy', 'lock'), ('lock', 'copy')])
        self.assertIsNot(rules.pairs, rules.pairs)

    def test_contained_names_and_rules(self):
        rules = Rules(small(), [COPY, LOCK])
        self.assertEqual([rules['copy'], rules['lock']], [COPY, LOCK])
        self.assertIs('copy' in rules, True)
        self.assertIs('t' in rules, False)
        for thing in any_values() + [0, 1, slice(0, 1), COPY, ['copy'], ('copy',), 'copy ', 'Copy']:
            self.assertIs(thing in rules, False)
            with self.assertRaises(RuleError) as caught:
                rules[thing]
            self.assertEqual(caught.exception.__class__.__name__, 'NoRule')
            self.assertIs(caught.exception.name, thing)

    def test_equal(self):
        rules = Rules(small(), [COPY, LOCK], [('lock', 'copy')])
        self.assertTrue(rules == Rules(small(), (COPY, LOCK), (('lock', 'copy'),)))
        self.assertFalse(rules != Rules(small(), (COPY, LOCK), (('lock', 'copy'),)))
        wider = Schema(2, [('t', ('k', 'v'), 1), ('u', ('k',), 1), ('w', ('k',), 1)])
        others = [Rules(small(), [LOCK, COPY], [('lock', 'copy')]), Rules(small(), [COPY, LOCK]),
                  Rules(small(), [COPY, LOCK], [('copy', 'lock')]), Rules(small(), [COPY]),
                  Rules(wider, [COPY, LOCK], [('lock', 'copy')]), Rules(small(), [COPY, ('lock',) + COPY[1:]])]
        for other in others:
            self.assertIs(rules == other, False)
            self.assertIs(rules != other, True)
        with_more = [('a', 'b'), ('b', 'c'), ('a', 'c')]
        self.assertTrue(Rules(small(), several(3), with_more) == Rules(small(), several(3), with_more[:2]))

    def test_equal_to_nothing_else(self):
        rules = Rules(small(), [COPY, LOCK], [('lock', 'copy')])
        for thing in any_values() + [(COPY, LOCK), [COPY, LOCK], rules.pairs, rules.schema]:
            self.assertIs(rules == thing, False)
            self.assertIs(rules != thing, True)
            self.assertIs(thing == rules, False)


class RulesErrorsTest(unittest.TestCase):
    def test_wrong_places(self):
        for thing in any_values():
            if not isinstance(thing, Schema):
                self.assertEqual(told(Rules, thing, [1], [1]), ('Wrong', {'place': 0}))
            if not isinstance(thing, (list, tuple)) or len(thing) > 12:
                self.assertEqual(told(Rules, small(), thing, [1]), ('Wrong', {'place': 1}))
                self.assertEqual(told(Rules, small(), thing), ('Wrong', {'place': 1}))
            elif len(thing) > 0:
                self.assertEqual(told(Rules, small(), thing, [1]), ('BadRule', {'at': 0}))
            if not isinstance(thing, (list, tuple)) or len(thing) > 200:
                self.assertEqual(told(Rules, small(), [1], thing), ('Wrong', {'place': 2}))
                self.assertEqual(told(Rules, small(), [COPY], thing), ('Wrong', {'place': 2}))
            elif len(thing) > 0:
                self.assertEqual(told(Rules, small(), [COPY, COPY], thing), ('Twice', {'name': 'copy'}))
                self.assertEqual(told(Rules, small(), [COPY], thing), ('BadPair', {'at': 0}))

    def test_any_value_as_an_item(self):
        for thing in any_values():
            if not (isinstance(thing, tuple) and thing[:1] == ('copy',) and len(thing) == 8):
                self.assertEqual(told(Rules, small(), [COPY, thing, 1]), ('BadRule', {'at': 1}))
            if thing != ('copy', 'lock'):
                pairs = [('copy', 'lock'), thing]
                self.assertEqual(told(Rules, small(), [COPY, LOCK], pairs), ('BadPair', {'at': 1}))
                self.assertEqual(told(Rules, small(), [COPY, LOCK], [('copy', thing)]), ('BadPair', {'at': 0}))
                self.assertEqual(told(Rules, small(), [COPY, LOCK], [(thing, 'copy')]), ('BadPair', {'at': 0}))

    def test_twelve_and_thirteen_rules(self):
        self.assertEqual(len(Rules(small(), several(12))), 12)
        self.assertEqual(told(Rules, small(), several(13)), ('Wrong', {'place': 1}))
        self.assertEqual(told(Rules, small(), [1] * 13), ('Wrong', {'place': 1}))
        self.assertEqual(told(Rules, small(), [1] * 12), ('BadRule', {'at': 0}))

    def test_two_hundred_pairs_and_one_more(self):
        self.assertEqual(Rules(small(), several(2), [('a', 'b')] * 200).pairs, [('a', 'b')])
        self.assertEqual(told(Rules, small(), several(2), [('a', 'b')] * 201), ('Wrong', {'place': 2}))
        self.assertEqual(told(Rules, small(), [1], [('a', 'b')] * 201), ('Wrong', {'place': 2}))

    def test_bad_rules_by_the_schema(self):
        self.assertEqual(told(Rules, large(), [COPY]), ('BadRule', {'at': 0}))
        self.assertEqual(told(Rules, small(), [COPY, list(LOCK)]), ('BadRule', {'at': 1}))
        self.assertEqual(told(Rules, small(), [COPY, COPY, 1]), ('BadRule', {'at': 2}))

    def test_twice(self):
        self.assertEqual(told(Rules, small(), [COPY, COPY]), ('Twice', {'name': 'copy'}))
        same = [made('b'), made('a'), made('a', 'delete'), made('b', 'update')]
        self.assertEqual(told(Rules, small(), same, [1]), ('Twice', {'name': 'a'}))

    def test_pairs_of_rules_that_do_not_compete(self):
        kinds = [('insert', 'late'), ('insert', 'late', 'statement'), ('insert', 'ahead', 'statement'),
                 ('insert', 'behind', 'row', 'u'), ('delete', 'behind'), ('insert', 'ahead'),
                 ('insert', 'behind', 'statement'), ('insert', 'behind')]
        for one in kinds:
            for two in kinds:
                given = several(2) + [made('one', *one), made('two', *two)]
                outcome = told(Rules, small(), given, [('a', 'b'), ('one', 'two')])
                if one == two and one not in kinds[:3]:
                    self.assertEqual(outcome[1].pairs, [('a', 'b'), ('one', 'two')])
                else:
                    self.assertEqual(outcome, ('BadPair', {'at': 1}))
        self.assertEqual(told(Rules, small(), [COPY, LOCK], [('copy', 'copy')]), ('BadPair', {'at': 0}))
        self.assertEqual(told(Rules, small(), [COPY, LOCK], [('copy', 'lock', 'lock')]), ('BadPair', {'at': 0}))
        self.assertEqual(told(Rules, small(), [COPY, LOCK], [['copy', 'lock']]), ('BadPair', {'at': 0}))
        self.assertEqual(told(Rules, small(), [COPY, LOCK], ['copy', 'lock']), ('BadPair', {'at': 0}))

    def test_rules_with_different_columns_compete(self):
        one = ('one', 't', 'update', ('k',), 'behind', 'row', (), REFUSE)
        two = ('two', 't', 'update', ('v',), 'behind', 'row', (), REFUSE)
        self.assertEqual(Rules(small(), [one, two], [('two', 'one')]).pairs, [('two', 'one')])

    def test_bad_pairs_go_ahead_of_rings(self):
        pairs = [('a', 'b'), ('b', 'a'), ('a', 'a')]
        self.assertEqual(told(Rules, small(), several(2), pairs), ('BadPair', {'at': 2}))
        self.assertEqual(told(Rules, small(), several(2), pairs[:2]), ('Ring', {'members': ['a', 'b']}))

    def test_the_least_of_the_shortest_rings(self):
        ring = [('d', 'c'), ('c', 'b'), ('b', 'd')]
        self.assertEqual(told(Rules, small(), several(4), ring), ('Ring', {'members': ['b', 'd', 'c']}))
        longer = [('a', 'b'), ('b', 'c'), ('c', 'a')]
        shorter = [('e', 'd'), ('d', 'e')]
        self.assertEqual(told(Rules, small(), several(5), longer + shorter), ('Ring', {'members': ['d', 'e']}))
        two = [('a', 'c'), ('c', 'd'), ('d', 'a'), ('a', 'e'), ('e', 'b'), ('b', 'a')]
        self.assertEqual(told(Rules, small(), several(5), two), ('Ring', {'members': ['a', 'c', 'd']}))
        self.assertEqual(told(Rules, small(), several(5), two[::-1]), ('Ring', {'members': ['a', 'c', 'd']}))

    def test_rings_of_every_kind_in_every_order_of_pairs(self):
        chance = random.Random(2)
        rings = 0
        for _ in range(400):
            many = chance.randint(2, 6)
            pairs = [pair for pair in itertools.permutations(MANY[:many], 2) if chance.random() < 0.3]
            chance.shuffle(pairs)
            ring = brute_ring(pairs, MANY[:many])
            outcome = told(Rules, small(), several(many)[::-1], pairs)
            if ring is None:
                self.assertEqual(outcome[0], 'returned')
            else:
                rings += 1
                self.assertEqual(outcome, ('Ring', {'members': ring}))
                self.assertIsInstance(outcome[1]['members'], list)
        self.assertGreater(rings, 100)

    def test_a_ring_of_twelve(self):
        pairs = [(one, other) for one, other in zip(MANY[:12], MANY[1:12] + 'a')]
        self.assertEqual(told(Rules, small(), several(12), pairs[::-1]), ('Ring', {'members': list(MANY[:12])}))

    def test_what_is_passed_in_stays(self):
        given, pairs = several(3), [('b', 'c'), ('a', 'b')]
        Rules(small(), given, pairs)
        told(Rules, small(), given, pairs + [('c', 'a')])
        self.assertEqual([given, pairs], [several(3), [('b', 'c'), ('a', 'b')]])


class RulesMethodsTest(unittest.TestCase):
    def setUp(self):
        self.rules = Rules(small(), several(4)[::-1], [('a', 'b'), ('b', 'c')])
        self.kept = Rules(small(), several(4)[::-1], [('a', 'b'), ('b', 'c')])

    def tearDown(self):
        self.assertEqual(self.rules, self.kept)
        self.assertEqual(self.rules.pairs, [('a', 'b'), ('a', 'c'), ('b', 'c')])

    def test_less_a_rule(self):
        less = self.rules - 'b'
        self.assertEqual([less.names, less.pairs, less.schema], [('d', 'c', 'a'), [('a', 'c')], small()])
        self.assertEqual((less - 'a').pairs, [])
        self.assertEqual((self.rules - 'd').pairs, self.rules.pairs)
        self.assertEqual((self.rules - 'a' - 'b' - 'c' - 'd').rules, ())

    def test_less_any_value(self):
        for thing in any_values() + [made('a'), 'e', ['a'], ('a', 'b')]:
            if isinstance(thing, str) and thing == 'a':
                self.assertEqual((self.rules - thing).names, ('d', 'c', 'b'))
                continue
            with self.assertRaises(RuleError) as caught:
                self.rules - thing
            self.assertEqual(caught.exception.__class__.__name__, 'NoRule')
            self.assertIs(caught.exception.name, thing)

    def test_a_rule_more(self):
        more = self.rules + made('e')
        self.assertEqual(more.names, ('d', 'c', 'b', 'a', 'e'))
        self.assertEqual([more['e'], more.pairs, more.schema], [made('e'), self.rules.pairs, small()])
        self.assertEqual(more - 'e', self.rules)

    def test_a_rule_more_any_value(self):
        def plus(rules, rule):
            return rules + rule
        for thing in any_values():
            good = isinstance(thing, tuple) and thing[:1] == ('copy',) and len(thing) == 8
            if good:
                self.assertEqual((self.rules + thing).names, ('d', 'c', 'b', 'a', 'copy'))
            else:
                self.assertEqual(told(plus, self.rules, thing), ('BadRule', {'at': 4}))
            twelve = Rules(small(), several(12))
            self.assertEqual(told(plus, twelve, thing), ('TooMany', {'limit': 12}))
        self.assertEqual(told(plus, self.rules, made('a', 'delete')), ('Twice', {'name': 'a'}))
        self.assertEqual(told(plus, Rules(small(), several(12)), made('a')), ('TooMany', {'limit': 12}))
        self.assertEqual(told(plus, Rules(small(), []), 1), ('BadRule', {'at': 0}))
        self.assertEqual(len(Rules(small(), several(11)) + made('z')), 12)

    def test_ordered(self):
        for pairs in ([('c', 'd')], (('c', 'd'),), [('c', 'd'), ('a', 'b'), ('c', 'd')]):
            more = self.rules.ordered(pairs)
            self.assertEqual(more.pairs, [('a', 'b'), ('a', 'c'), ('a', 'd'), ('b', 'c'), ('b', 'd'), ('c', 'd')])
            self.assertEqual([more.rules, more.schema], [self.rules.rules, small()])
        self.assertEqual(self.rules.ordered([]), self.rules)
        self.assertEqual(self.rules.ordered([('a', 'c')]), self.rules)

    def test_ordered_by_bad_pairs(self):
        for thing in any_values():
            if thing != ('a', 'b'):
                self.assertEqual(told(self.rules.ordered, [('c', 'd'), thing]), ('BadPair', {'at': 1}))
        self.assertEqual(told(self.rules.ordered, [('b', 'a'), ('a', 'a')]), ('BadPair', {'at': 1}))
        self.assertEqual(told(self.rules.ordered, [('a', 'e')]), ('BadPair', {'at': 0}))

    def test_ordered_by_rings(self):
        # The order has (a, c), which was not passed in, so the ring is one of two names.
        self.assertEqual(told(self.rules.ordered, [('c', 'a')]), ('Ring', {'members': ['a', 'c']}))
        self.assertEqual(told(self.rules.ordered, [('c', 'd'), ('d', 'a')]), ('Ring', {'members': ['a', 'c', 'd']}))
        self.assertEqual(told(self.rules.ordered, [('d', 'c'), ('c', 'd')]), ('Ring', {'members': ['c', 'd']}))
        plain = [('a', 'b'), ('b', 'c'), ('c', 'd'), ('d', 'a')]
        self.assertEqual(told(Rules, small(), several(4), plain), ('Ring', {'members': ['a', 'b', 'c', 'd']}))

    def test_ordered_with_many_pairs(self):
        line = [(MANY[one], MANY[other]) for one in range(12) for other in range(one + 1, 12)]
        rules = Rules(small(), several(12), line)
        self.assertEqual(rules.pairs, line)
        self.assertEqual(rules.ordered(line * 3), rules)
        given = line[::-1]
        self.assertEqual(rules.ordered(given), rules)
        self.assertEqual(given, line[::-1])

    def test_by_name(self):
        found = self.rules.by_name()
        self.assertEqual(found.names, ('a', 'b', 'c', 'd'))
        self.assertEqual(found.rules, tuple(several(4)))
        self.assertEqual([found.pairs, found.schema], [self.rules.pairs, small()])
        mixed = Rules(small(), [made('c', 'delete'), COPY, made('b', when='late'), made('a', 'update')])
        self.assertEqual(mixed.by_name().names, ('a', 'b', 'c', 'copy'))

    def test_competing(self):
        self.assertEqual(self.rules.competing(), sorted(itertools.permutations('abcd', 2)))
        kinds = [(event, when, level, table) for event in ('insert', 'delete', 'update')
                 for when in ('ahead', 'behind', 'late') for level in ('row', 'statement') for table in ('t', 'u')]
        chance = random.Random(3)
        for _ in range(50):
            picked = [chance.choice(chance.sample(kinds, 6)) for _ in range(12)]
            if chance.random() < 0.7:
                picked = [chance.choice(picked[:3]) for _ in range(12)]
            names = chance.sample(MANY, 12)
            rules = Rules(small(), [made(name, *kind) for name, kind in zip(names, picked)])
            kind_of = dict(zip(names, picked))
            wanted = [(one, other) for one in sorted(names) for other in sorted(names)
                      if one != other and kind_of[one] == kind_of[other] and kind_of[one][1] != 'late'
                      and kind_of[one][1:3] != ('ahead', 'statement')]
            self.assertEqual(rules.competing(), wanted)
            for pair in itertools.permutations(names, 2):
                right = pair in wanted
                self.assertEqual(told(rules.ordered, [pair])[0], 'returned' if right else 'BadPair')


if __name__ == '__main__':
    unittest.main()
