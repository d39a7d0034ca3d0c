"""[5], [6], [7], [8], [12], [13]: what holds for all rules, by worlds of few values.

[9] and [10] stand in test_orders, [11] in test_transactions, [14] in test_references, [15] in test_remade.
"""

import unittest

from firingrules.agree import agree, alike
from firingrules.bodies import body
from firingrules.causes import needed, steps, why
from firingrules.late import commit, decide_commits
from firingrules.never import fires
from firingrules.orders import least
from firingrules.ruleset import Rules
from firingrules.runs import play, run, trace
from firingrules.schemas import Schema
from firingrules.statics import apart, levels
from firingrules.tables import decide, firings, is_table, starts
from firingrules.transactions import transact
from tests.chance import Chance
from tests.support import ascending, told


def two_tables():
    """A schema of few databases."""
    return Schema(2, [('t', ('k', 'v'), 1), ('u', ('a',), 1)])


class EndsTest(unittest.TestCase):
    def test_a_table_or_a_turn_list(self):
        """[5], and [7]: without a ring of rules that raise each other all runs end."""
        seen = {}
        for seed in range(60):
            chance = Chance(seed, two_tables())
            if seed % 2:
                chance.part(2)
            else:
                chance.focus(1 + seed // 2 % 4)
            rules = chance.any_rules(chance.random.randint(1, 5))
            found = decide(rules, most=4000)
            name = rules.names[0]
            fired = fires(rules, name, most=4000)
            if found[0] == 'ends':
                self.assertIs(is_table(rules, starts(rules.schema), found[1]), True)
                self.assertIn(fired[0], ('never', 'fires'))
                if fired[0] == 'never':
                    self.assertEqual(fired[1], found[1])
                    if rules[name][4:6] != ('ahead', 'statement'):
                        self.assertEqual(alike(rules, rules - name, most=4000)[0], 'alike')
                else:
                    self.assertEqual(fired[3][-1], name)
            else:
                self.assertEqual(play(rules, *found[1:]), ('endless',))
                self.assertEqual(fired, found)
            if levels(rules)[0] == 'levels':
                self.assertEqual(found[0], 'ends')
            seen[found[0], levels(rules)[0]] = True
        self.assertEqual(set(seen), {('ends', 'levels'), ('ends', 'ring'), ('endless', 'ring')})

    def test_heights_are_bounded_by_levels(self):
        for seed in range(60):
            chance = Chance(seed, two_tables())
            chance.part(2)
            rules = chance.any_rules(chance.random.randint(1, 5))
            word, rows = levels(rules)
            if word == 'levels':
                most = max([level for _, level in rows], default=-1) + 1
                self.assertLessEqual(max([row[3] for row in decide(rules, most=4000)[1]]), most)

    def test_apart(self):
        """[8]: with rules that are apart or in order each call has one end."""
        many = 0
        for seed in range(400):
            chance = Chance(seed, Schema(2, [('t', ('k', 'v'), 1), ('u', ('a',), 1), ('w', ('b',), 1)]))
            chance.part(2)
            rules = chance.any_rules(chance.random.randint(2, 4), 0.5)
            loose = [pair for pair in rules.competing() if pair not in rules.pairs and pair[::-1] not in rules.pairs]
            if all([apart(rules, *pair) for pair in loose]):
                line = sorted({(chance.any_statement(), chance.database()) for _ in range(20)})
                found = decide(rules, line)
                if found[0] == 'ends':
                    self.assertEqual({len(row[2]) for row in found[1]}, {1})
                    many += bool(loose)
        self.assertGreater(many, 10)


class CallsTest(unittest.TestCase):
    def test_ends_and_firings_do_not_depend_on_where_a_call_stands(self):
        """[6]: a call within another one has the same row as one that is a start."""
        deep = 0
        for seed in range(200):
            chance = Chance(seed, two_tables())
            chance.part(2)
            rules = chance.any_rules(4, 0.1)
            start = (chance.any_statement(), chance.database())
            found = decide(rules, [start])
            if found[0] == 'ends':
                counts = {row[:2]: row for row in firings(rules, found[1])}
                for row in found[1]:
                    alone = decide(rules, [row[:2]])[1]
                    self.assertIn(row, alone)
                    self.assertIn(counts[row[:2]], firings(rules, alone))
                    deep += row[:2] != start
        self.assertGreater(deep, 30)

    def test_the_names_of_rules_that_stand_elsewhere_mean_nothing(self):
        schema = two_tables()
        rules = Rules(schema, [('a', 't', 'insert', (), 'behind', 'row', (), (('offer', 'u', (('new', 'k'),)),))])
        for extra in [('b', 'u', 'delete', (), 'behind', 'row', (), (('refuse',),)),
                      ('b', 't', 'insert', (), 'late', 'row', (), (('refuse',),)),
                      ('b', 't', 'update', (), 'ahead', 'row', (), (('refuse',),))]:
            more = rules + extra
            for start in starts(schema, [('insert', 't', (0, 1)), ('offer', 't', (1, 0))]):
                self.assertEqual(decide(rules, [start]), decide(more, [start]))


class AtOnceOrLateTest(unittest.TestCase):
    def plain_rule(self, chance, when):
        """A rule of [12], and the same one with another when."""
        random = chance.random
        table = random.choice(chance.schema.names)
        event = random.choice(['insert', 'delete', 'update'])
        own = chance.schema.columns(table)
        words = {'insert': ['new'], 'delete': ['old'], 'update': ['old', 'new']}[event]
        actions = []
        for _ in range(random.randint(1, 3)):
            other = random.choice([name for name in chance.schema.names if name != table])
            kind = random.choice(['offer', 'delete', 'update'])
            if kind == 'offer':
                actions.append((kind, other, tuple([chance.term(own, words) for _ in chance.schema.columns(other)])))
            elif kind == 'delete':
                actions.append((kind, other, chance.where(other, own, words)))
            elif other == 't':
                actions.append((kind, other, chance.where(other, own, words), (('v', chance.term(own, words)),)))
            else:
                actions.append((kind, other, chance.where(other, own, words), (('x', chance.term(own, words)),)))
        tests = tuple([chance.test(own, words) for _ in range(random.choice([0, 1, 1, 2]))])
        columns = chance.columns(own, event)
        return [('one', table, event, columns, time, 'row', tests, tuple(actions)) for time in when]

    def test_the_same_transaction(self):
        changed = 0
        for seed in range(1500):
            chance = Chance(seed, Schema(2, [('t', ('k', 'v'), 1), ('u', ('a', 'x'), 1)]))
            behind, late = [Rules(chance.schema, [rule]) for rule in self.plain_rule(chance, ('behind', 'late'))]
            database, statement = chance.database(), chance.statement(*behind.rules[0][1:3])
            if statement[0] == 'update' and [1 for column, _ in statement[3] if column in ('k', 'a')]:
                continue
            found = transact(behind, database, [statement], limit=4000)
            self.assertEqual(found, transact(late, database, [statement], limit=4000), seed)
            plain = transact(Rules(chance.schema, []), database, [statement])
            changed += found != plain
        self.assertGreater(changed, 100)

    def test_only_lists_of_several_statements_part_them(self):
        seen = {}
        for seed in range(120):
            chance = Chance(seed, Schema(2, [('t', ('k', 'v'), 1), ('u', ('a', 'x'), 1)]))
            behind, late = [Rules(chance.schema, [rule]) for rule in self.plain_rule(chance, ('behind', 'late'))]
            own = [chance.statement(*behind.rules[0][1:3]) for _ in range(2)] + [chance.any_statement()]
            statements = sorted({one for one in own if one[0] != 'update' or {'k', 'a'} & set(dict(one[3])) == set()})
            found = agree(behind, late, statements)
            if found[0] == 'parted':
                self.assertGreater(len(found[2]), 1)
            seen[found[0]] = True
        self.assertEqual(set(seen), {'agree', 'parted'})

    def test_two_statements_may_tell_something_else(self):
        schema = two_tables()
        rule = ('copy', 't', 'insert', (), 'behind', 'row', (), (('offer', 'u', (('new', 'k'),)),))
        deeds = [('insert', 't', (0, 1)), ('delete', 't', ())]
        both = [Rules(schema, [rule[:4] + (when,) + rule[5:]]) for when in ('behind', 'late')]
        found = [transact(side, schema.empty, deeds) for side in both]
        self.assertEqual(found, [(['done'] * 3, ((), ((0,),))), (['done'] * 3, ((), ()))])
        self.assertEqual(agree(*both, deeds), ('parted', schema.empty, deeds))
        self.assertEqual(agree(*both, deeds[:1])[0], 'agree')


class Renamed:
    """A rising map of values, and other names of tables, columns and rules."""

    def __init__(self, schema, size, values, names):
        self.values, self.names = values, names
        self.schema = Schema(size, [(self.name(name), tuple([self.name(column) for column in columns]), keys)
                                    for name, columns, keys in schema.tables])

    def name(self, word):
        """The other name."""
        return self.names.get(word, word)

    def put(self, thing):
        """A statement, database or step with other values and names."""
        if isinstance(thing, (tuple, list)):
            return thing.__class__([self.put(part) for part in thing])
        if isinstance(thing, str):
            return self.name(thing)
        if isinstance(thing, dict):
            return {self.put(part): self.put(thing[part]) for part in thing}
        return thing if isinstance(thing, bool) or thing is None else self.values[thing]

    def rules(self, rules):
        """The rules with other values and names."""
        return Rules(self.schema, [self.put(rule) for rule in rules.rules], self.put(rules.pairs))

    def steps(self, steps):
        """Steps with other values and names, but the same causes."""
        return [step[:1] + step[1:2] + self.put(step[2:]) for step in steps]


class CopiedValuesTest(unittest.TestCase):
    def check(self, seed, size, values, names):
        """Check all that is asked of some rules by what is asked of the others."""
        chance = Chance(seed, two_tables())
        if seed % 2:
            chance.part(2)
        rules = chance.any_rules(chance.random.randint(1, 5), 0.2, whens=('ahead', 'behind', 'behind', 'late'))
        statement, one, two = chance.any_statement(), chance.database(), chance.database()
        other = Renamed(rules.schema, size, values, names)
        renamed = other.rules(rules)

        def same(call, *given, **more):
            """What is told, which the others tell alike."""
            found = told(call, rules, *given, **more)
            wanted = told(call, renamed, *[other.put(part) for part in given], **more)
            self.assertEqual(found[0], wanted[0])
            return found, wanted
        for call, given in [(run, (statement, one)), (commit, (one, two)), (transact, (one, [statement])),
                            (play, (statement, one, []))]:
            found, wanted = same(call, *given, limit=30) if call is not play else same(call, *given)
            if found[0] == 'returned':
                if call is transact:
                    self.assertEqual((found[1][0], other.put(found[1][1])), wanted[1])
                elif call is play:
                    self.assertEqual(found[1][:1] + other.put(found[1][1:]), wanted[1])
                else:
                    self.assertEqual(other.put(found[1]), wanted[1])
        found, wanted = same(trace, statement, one, limit=30)
        if found[0] == 'returned':
            self.assertEqual(other.steps(found[1]), wanted[1])
            turns = [step[2] for step in found[1] if step[0] == 'turn']
            self.assertEqual(play(renamed, other.put(statement), other.put(one), other.put(turns))[0], 'end')
        self.check_causes(other, same, one, [statement, chance.any_statement()])
        self.check_firings(other, same, rules, (statement, one))
        found, wanted = same(decide, [(statement, one)])
        self.assertEqual(found[1][0], wanted[1][0])
        if found[1][0] == 'ends':
            self.check_tables(other, found[1][1], wanted[1][1])
            counts = [(*other.put(row[:2]), {other.put(end): many for end, many in row[2]}) for row in firings(rules, found[1][1])]
            others = [(*row[:2], dict(row[2])) for row in firings(renamed, wanted[1][1])]
            self.assertEqual(sorted(counts, key=lambda row: row[:2]), others)
        found, wanted = same(body, statement, one, {})
        self.assertEqual(ascending(other.put(found[1][0])), wanted[1][0])
        self.assertEqual(sorted(other.put(found[1][1])), wanted[1][1])
        self.assertEqual(sorted(other.put(found[1][2])), wanted[1][2])
        found, wanted = same(decide_commits, [(one, two)])
        self.assertEqual(found[1][0], wanted[1][0])
        if found[1][0] == 'ends':
            self.check_tables(other, found[1][1], wanted[1][1])
            self.check_tables(other, found[1][2], wanted[1][2])

    def check_causes(self, other, same, database, statements):
        """Check that steps, their causes and what is needed are the same, with other values and names."""
        found, wanted = same(steps, database, statements, limit=30)
        if found[0] == 'returned':
            self.assertEqual(other.steps(found[1]), wanted[1])
            for key in ((0,), (1,)):
                found, wanted = same(why, database, statements, 't', key, limit=30)
                self.assertEqual(other.steps(found[1]), wanted[1])
                found, wanted = same(needed, database, statements, 't', key, limit=30)
                self.assertEqual(sorted([tuple(sorted(names)) for names in other.put(found[1])]), wanted[1])

    def check_firings(self, other, same, rules, start):
        """Check that a rule fires or not, and that two sets of rules are alike or not, with other values and names."""
        rule = rules.rules[0]
        if rule[4] != 'late' and rule[4:6] != ('ahead', 'statement'):
            found, wanted = same(fires, rule[0], [start])
            self.assertEqual(found[1][0], wanted[1][0])
            if found[1][0] == 'fires':
                self.assertEqual(other.put(found[1][1:3]), wanted[1][1:3])
        less = rules - rule[0]
        found = alike(rules, less, [start])
        wanted = alike(other.rules(rules), other.rules(less), [other.put(start)])
        self.assertEqual(found[0], wanted[0])
        if found[0] == 'parted':
            self.assertEqual(other.put(found[1:3]), wanted[1:3])

    def check_tables(self, other, rows, wanted):
        """Check that tables of calls or states are the same, with other values and names."""
        mapped = [(*other.put(row[:2]), ascending(other.put(row[2])), row[3]) for row in rows]
        self.assertEqual(sorted(mapped, key=lambda row: row[:2]), wanted)

    def test_rising_maps(self):
        for seed in range(120):
            for size, values in [(3, (0, 1)), (3, (0, 2)), (3, (1, 2)), (4, (1, 3))]:
                self.check(seed, size, values, {})

    def test_other_names(self):
        names = {'t': 'z', 'u': 'ta', 'k': 'old', 'v': 'b', 'a': 'k', 'b': 'uu', 'c': 'x', 'd': 'a'}
        for seed in range(200):
            # A rule and a column are both called a: they get the same other name.
            self.check(seed, 2, (0, 1), names)

    def test_the_fewest_pairs_have_no_names(self):
        for seed in range(100):
            chance = Chance(seed, two_tables())
            chance.part(1)
            rules = chance.any_rules(3, 0, whens=('behind',))
            line = sorted({(chance.any_statement(), chance.database()) for _ in range(4)})
            other = Renamed(rules.schema, 4, (0, 3), {'t': 'z', 'a': 'q', 'b': 'a', 'c': 'm'})
            pairs, more = least(rules, line)[0], least(other.rules(rules), other.put(line))[0]
            self.assertEqual(pairs is None, more is None)
            if pairs is not None:
                self.assertEqual(len(pairs), len(more))


if __name__ == '__main__':
    unittest.main()
