"""[94], [15]: rules that are split, and rules with another time."""

import unittest

from firingrules.remade import split, timed
from firingrules.ruleset import Rules
from firingrules.runs import run, trace
from firingrules.schemas import Schema
from firingrules.tables import decide
from tests.chance import Chance
from tests.support import made, offer, small, told
from tests.worlds import idle

ZERO, ONE = offer(0), ('delete', 'u', ())
REFUSE = ('refuse',)


def rules(*given, pairs=()):
    """Rules of the small schema."""
    return Rules(small(), given, pairs)


def triple(name, **more):
    """A rule with three actions."""
    return made(name, actions=[ZERO, ONE, REFUSE], **more)


class SplitTest(unittest.TestCase):
    def test_one_two_and_three_actions(self):
        for many in (1, 2, 3):
            actions = [ZERO, ONE, REFUSE][:many]
            rule = made('a', actions=actions, condition=(('same', ('new', 'k'), 0),), level='row')
            names = ['x', 'b', 'm'][:many]
            found = split(rules(rule), 'a', names)
            parts = [made(name, actions=[action], condition=rule[6]) for name, action in zip(names, actions)]
            self.assertEqual(found.rules, tuple(parts))
            self.assertEqual(found.pairs, sorted([('x', 'b'), ('x', 'm'), ('b', 'm')][:[0, 1, 3][many - 1]]))
            self.assertEqual(found, rules(*parts, pairs=list(zip(names, names[1:]))))

    def test_all_parts_of_the_rule_stay(self):
        update = ('a', 't', 'update', ('k', 'v'), 'behind', 'row', (('some', 'u', ()), ('same', ('old', 'k'), 1)), (ZERO, ONE))
        self.assertEqual(split(rules(update), 'a', ['b', 'c']).rules,
                         (('b', *update[1:7], (ZERO,)), ('c', *update[1:7], (ONE,))))
        level = triple('a', level='statement')
        self.assertEqual(split(rules(level), 'a', ['b', 'c', 'd']).rules, tuple(
            [made(name, actions=[action], level='statement') for name, action in zip('bcd', level[7])]))

    def test_at_any_place(self):
        others = [made('b'), made('c', 'delete'), made('d', when='late')]
        for at in range(4):
            given = others[:at] + [triple('a')] + others[at:]
            found = split(rules(*given), 'a', ['x', 'y', 'z'])
            names = [rule[0] for rule in others]
            self.assertEqual(found.names, tuple(names[:at] + ['x', 'y', 'z'] + names[at:]))
            self.assertEqual([rule for rule in found.rules if rule[0] in names], others)
            self.assertEqual(found.pairs, [('x', 'y'), ('x', 'z'), ('y', 'z')])

    def test_pairs_on_both_sides(self):
        given = rules(made('b'), triple('a'), made('c'), made('d'), pairs=[('b', 'a'), ('a', 'c')])
        self.assertEqual(given.pairs, [('a', 'c'), ('b', 'a'), ('b', 'c')])
        found = split(given, 'a', ['x', 'y', 'z'])
        self.assertEqual(found.pairs, sorted(
            [('x', 'y'), ('x', 'z'), ('y', 'z'), ('b', 'c')] + [('b', part) for part in 'xyz'] + [(part, 'c') for part in 'xyz']))
        self.assertEqual(split(given, 'b', ['q']).pairs, [('a', 'c'), ('q', 'a'), ('q', 'c')])
        self.assertEqual(split(given, 'd', ['d']), given)

    def test_the_own_name_among_them(self):
        given = rules(triple('a'), made('b'), pairs=[('a', 'b')])
        for names in (['a', 'x', 'y'], ['x', 'a', 'y'], ['x', 'y', 'a']):
            found = split(given, 'a', names)
            self.assertEqual(found.names, (*names, 'b'))
            line = names + ['b']
            self.assertEqual(found.pairs, sorted([(one, other) for at, one in enumerate(line) for other in line[at + 1:]]))

    def test_no_rule(self):
        for name in ('b', 'x', 'nought'):
            self.assertEqual(told(split, rules(triple('a')), name, ['x', 'y', 'z']), ('NoRule', {'name': name}))
        self.assertEqual(told(split, rules(), 'a', []), ('NoRule', {'name': 'a'}))

    def test_bad_rule(self):
        ahead = made('b', actions=[('turn', 'k', 0), ('skip',)], when='ahead')
        level = made('c', when='ahead', level='statement')
        late = made('d', actions=[ZERO, ONE], when='late')
        given = rules(triple('a'), ahead, level, late)
        for at, (name, names) in enumerate([('b', ['x', 'y']), ('c', ['x']), ('d', ['x', 'y'])]):
            self.assertEqual(told(split, given, name, names), ('BadRule', {'at': at + 1}))
        self.assertEqual(told(split, given, 'd', ['a', 'b']), ('BadRule', {'at': 3}))

    def test_too_many(self):
        more = [idle('bcdefghijkl'[at], 't', 'delete') for at in range(11)]
        names = ['x', 'y', 'z']
        self.assertEqual(len(split(rules(triple('a'), *more[:9]), 'a', names)), 12)
        for many in (10, 11):
            self.assertEqual(told(split, rules(triple('a'), *more[:many]), 'a', names), ('TooMany', {'limit': 12}))
        self.assertEqual(len(split(rules(made('a'), *more), 'a', ['x'])), 12)
        two = made('a', actions=[ZERO, ONE])
        self.assertEqual(len(split(rules(two, *more[:10]), 'a', ['x', 'y'])), 12)
        # Ahead of Twice, and behind BadRule.
        self.assertEqual(told(split, rules(two, *more), 'a', ['x', 'b']), ('TooMany', {'limit': 12}))
        late = made('a', actions=[ZERO, ONE], when='late')
        self.assertEqual(told(split, rules(late, *more), 'a', ['x', 'y']), ('BadRule', {'at': 0}))

    def test_twice(self):
        given = rules(triple('a'), made('b'), made('c', when='late'))
        self.assertEqual(told(split, given, 'a', ['x', 'c', 'b']), ('Twice', {'name': 'c'}))
        self.assertEqual(told(split, given, 'a', ['b', 'c', 'x']), ('Twice', {'name': 'b'}))
        self.assertEqual(told(split, given, 'a', ['a', 'x', 'b']), ('Twice', {'name': 'b'}))
        self.assertEqual(told(split, given, 'b', ['a']), ('Twice', {'name': 'a'}))

    def test_what_is_passed_stays(self):
        given, names = rules(triple('a'), made('b'), pairs=[('a', 'b')]), ['x', 'y', 'z']
        first = split(given, 'a', names)
        self.assertEqual(given, rules(triple('a'), made('b'), pairs=[('a', 'b')]))
        self.assertEqual(names, ['x', 'y', 'z'])
        names.clear()
        self.assertEqual(split(given, 'a', ['x', 'y', 'z']), first)
        self.assertIs(first == given, False)


class TimedTest(unittest.TestCase):
    def test_from_behind_to_late_and_back(self):
        given = rules(made('b'), triple('a'), made('c'), pairs=[('b', 'a'), ('a', 'c')])
        late = timed(given, 'a', 'late')
        self.assertEqual(late.rules, (made('b'), triple('a', when='late'), made('c')))
        self.assertEqual(late.pairs, [('b', 'c')])
        back = timed(late, 'a', 'behind')
        self.assertEqual(back.rules, given.rules)
        # Its pairs do not come back.
        self.assertEqual(back.pairs, [('b', 'c')])

    def test_the_same_time(self):
        given = rules(made('b'), triple('a'), made('c', when='late'), pairs=[('b', 'a')])
        self.assertEqual(timed(given, 'a', 'behind'), given)
        self.assertEqual(timed(given, 'c', 'late'), given)
        self.assertEqual(timed(given, 'b', 'behind').pairs, [('b', 'a')])

    def test_all_parts_of_the_rule_stay(self):
        update = ('a', 't', 'update', ('v',), 'behind', 'statement', (('some', 'u', ()),), (ZERO, ONE))
        self.assertEqual(timed(rules(update), 'a', 'late').rules, (update[:4] + ('late',) + update[5:],))

    def test_no_rule(self):
        for when in ('behind', 'late'):
            self.assertEqual(told(timed, rules(made('a')), 'b', when), ('NoRule', {'name': 'b'}))

    def test_bad_rule(self):
        given = rules(made('a'), made('b', when='ahead'), made('c', when='ahead', level='statement'))
        for when in ('behind', 'late'):
            self.assertEqual(told(timed, given, 'b', when), ('BadRule', {'at': 1}))
            self.assertEqual(told(timed, given, 'c', when), ('BadRule', {'at': 2}))

    def test_the_rules_stay(self):
        given = rules(made('a'), made('b'), pairs=[('a', 'b')])
        first = timed(given, 'a', 'late')
        self.assertEqual(given, rules(made('a'), made('b'), pairs=[('a', 'b')]))
        self.assertEqual(timed(given, 'a', 'late'), first)


class SplitRunsTest(unittest.TestCase):
    def case(self, seed):
        """Rules with a rule that may be split, its name, and starts; or None."""
        chance = Chance(seed, Schema(2, [('t', ('k', 'v'), 1), ('u', ('a',), 1)]))
        if seed % 2:
            chance.part(chance.random.randint(1, 2))
        else:
            chance.focus(chance.random.randint(1, 4))
        given = chance.any_rules(chance.random.randint(1, 5), 0.2)
        fit = [rule for rule in given.rules if rule[4:6] == ('behind', 'row') and len(rule[7]) > 1
               and not [test for test in rule[6] if test[0] in ('some', 'no')]]
        if not fit:
            return None
        name = chance.random.choice(fit)[0]
        for one, other in given.competing():
            if one == name and (one, other) not in given.pairs and (other, one) not in given.pairs:
                given = given.ordered([chance.random.choice([(one, other), (other, one)])])
        line = [(chance.any_statement(), chance.database()) for _ in range(6)]
        return given, name, sorted(set(line))

    def test_the_same_ends_and_changes(self):
        """[15]: a rule whose competing rules are all in order with it, without some and no, may be split."""
        seen = {}
        for seed in range(600):
            found = self.case(seed)
            if found is None:
                continue
            given, name, line = found
            parts = split(given, name, ['x', 'y', 'z'][:len(given[name][7])])
            one, other = decide(given, line), decide(parts, line)
            self.assertEqual(one[:3] if one[0] == 'endless' else one, other[:3] if one[0] == 'endless' else other)
            seen[one[0]] = True
            for statement, database in line:
                ends = [told(run, side, statement, database, limit=4000) for side in (given, parts)]
                self.assertEqual(ends[0], ends[1])
                if ends[0][0] == 'returned':
                    steps = [trace(side, statement, database, limit=4000) for side in (given, parts)]
                    changed = [[step[:1] + step[2:] for step in side if step[0] != 'turn'] for side in steps]
                    self.assertEqual(changed[0], changed[1])
                    many = [len([step for step in side if step[0] == 'turn']) for side in steps]
                    seen['more turns' if many[0] < many[1] else 'as many'] = True
        self.assertEqual(set(seen), {'ends', 'endless', 'more turns', 'as many'})


if __name__ == '__main__':
    unittest.main()
