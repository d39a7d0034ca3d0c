"""[93], [14]: references, the rules that keep them, and databases that fit."""

import copy
import itertools
import unittest

from firingrules.orders import least, one_end
from firingrules.references import bars, cascade, fits, fitting, guard
from firingrules.rules import is_rule
from firingrules.ruleset import Rules
from firingrules.runs import run
from firingrules.schemas import Schema
from firingrules.tables import decide
from firingrules.transactions import transact
from tests.chance import Chance
from tests.support import small

# Rows of w tell keys of u in x, and of t in y; rows of u keys of t, those of t of t itself, or of u.
LINES = Schema(3, [('t', ('k', 'v'), 1), ('u', ('p', 'q'), 1), ('w', ('i', 'x', 'y'), 1)])
UT, WU, WT = ('ut', 'u', 'q', 't'), ('wu', 'w', 'x', 'u'), ('wt', 'w', 'y', 't')
TT, TU = ('tt', 't', 'v', 't'), ('tu', 't', 'v', 'u')
KEY = ('key', 'u', 'p', 't')
ALL = [UT, WU, WT, TT, TU, KEY]


def value(schema, table, row, column):
    """The value in a column."""
    return dict(zip(schema.columns(table), row))[column]


def leaning(schema, references, database):
    """Tuples (table, row, parent, row) of rows that tell the keys of others."""
    found = []
    for _, table, column, parent in references:
        for row in database[schema.names.index(table)]:
            for other in database[schema.names.index(parent)]:
                if other[0] == value(schema, table, row, column):
                    found.append((table, row, parent, other))
    return found


def fits_by_hand(schema, references, database):
    """Whether each row tells a key of each of its parents."""
    for _, table, column, parent in references:
        keys = [row[0] for row in database[schema.names.index(parent)]]
        if [row for row in database[schema.names.index(table)] if value(schema, table, row, column) not in keys]:
            return False
    return True


def within(database):
    """All databases whose rows are all in this one."""
    parts = [[part for many in range(len(rows) + 1) for part in itertools.combinations(rows, many)] for rows in database]
    return list(itertools.product(*parts))


class RulesTest(unittest.TestCase):
    def test_cascade(self):
        self.assertEqual(cascade(LINES, UT), ('ut', 't', 'delete', (), 'behind', 'row', (), (('delete', 'u', (('q', ('old', 'k')),)),)))
        self.assertEqual(cascade(LINES, WU), ('wu', 'u', 'delete', (), 'behind', 'row', (), (('delete', 'w', (('x', ('old', 'p')),)),)))

    def test_guard(self):
        self.assertEqual(guard(LINES, WT), ('wt', 't', 'delete', (), 'behind', 'row', (('some', 'w', (('y', ('old', 'k')),)),), (('refuse',),)))

    def test_bars(self):
        missing = (('no', 'u', (('p', ('new', 'x')),)),)
        telling = (('some', 'w', (('x', ('old', 'p')),)),)
        refuse = (('refuse',),)
        self.assertEqual(bars(LINES, WU), [
            ('wua', 'w', 'insert', (), 'late', 'row', missing, refuse),
            ('wub', 'w', 'update', ('x',), 'late', 'row', missing, refuse),
            ('wuc', 'u', 'delete', (), 'late', 'row', telling, refuse),
        ])

    def test_they_are_rules_of_the_schema_with_their_names(self):
        for reference in ALL + [('abcdefg', 'w', 'y', 't'), ('a', 't', 'k', 't')]:
            name = reference[0]
            self.assertEqual(cascade(LINES, reference)[0], name)
            self.assertEqual(guard(LINES, reference)[0], name)
            self.assertEqual([rule[0] for rule in bars(LINES, reference)], [name + 'a', name + 'b', name + 'c'])
            for rule in [cascade(LINES, reference), guard(LINES, reference), *bars(LINES, reference)]:
                self.assertIs(is_rule(LINES, rule), True)

    def test_guards_refuse_if_some_row_tells_the_key(self):
        given = Rules(LINES, [guard(LINES, WT)])
        base = (((0, 0), (1, 0)), ((1, 1),), ((2, 2, 1),))
        delete = [('delete', 't', (('k', key),)) for key in range(3)]
        self.assertEqual([run(given, one, base) for one in delete], [(((1, 0),), *base[1:]), None, base])
        self.assertIsNone(run(given, ('delete', 't', ()), base))
        self.assertEqual(run(given, ('delete', 'u', ()), base), (base[0], (), base[2]))

    def test_new_lists(self):
        first = bars(LINES, WT)
        again = copy.deepcopy(first)
        first.clear()
        self.assertEqual(bars(LINES, WT), again)


class FitsTest(unittest.TestCase):
    def test_ordinary_ones(self):
        base = (((0, 0), (1, 0)), ((1, 0),), ((2, 1, 0),))
        self.assertIs(fits(LINES, [UT, WU, WT, TT], base), True)
        self.assertIs(fits(LINES, [], base), True)
        self.assertIs(fits(LINES, ALL, ((), (), ())), True)
        self.assertIs(fits(LINES, [UT], ((), ((1, 0),), ())), False)
        self.assertIs(fits(LINES, [UT], (((1, 0),), ((1, 0),), ())), False)
        self.assertIs(fits(LINES, [UT], (((0, 1),), ((1, 0),), ())), True)
        self.assertIs(fits(LINES, [TT], (((0, 1),), (), ())), False)
        self.assertIs(fits(LINES, [TU, UT], (((0, 1),), ((1, 0),), ())), True)
        self.assertIs(fits(LINES, [TU, UT, TT], (((0, 1),), ((1, 0),), ())), False)

    def test_each_reference_counts(self):
        base = (((0, 0),), ((1, 0),), ((2, 1, 0),))
        for at, broken in enumerate([(base[0], ((1, 2),), base[2]), (base[0], base[1], ((2, 2, 0),)), (base[0], base[1], ((2, 1, 1),))]):
            self.assertEqual([fits(LINES, [one], broken) for one in (UT, WU, WT)], [other != at for other in range(3)])
            for line in itertools.permutations([UT, WU, WT]):
                self.assertIs(fits(LINES, list(line), broken), False)

    def test_all_databases_of_a_small_schema(self):
        schema = Schema(2, [('t', ('k', 'v'), 1), ('u', ('k',), 1)])
        line = [('a', 't', 'v', 't'), ('b', 't', 'v', 'u'), ('c', 'u', 'k', 't'), ('d', 't', 'k', 'u')]
        for database in schema.databases():
            for many in range(3):
                for some in itertools.combinations(line, many):
                    self.assertIs(fits(schema, list(some), database), fits_by_hand(schema, some, database))


class FittingTest(unittest.TestCase):
    def test_rows_that_lean_on_one_another(self):
        ring = (((0, 1), (1, 0)), (), ())
        self.assertEqual(fitting(LINES, [TT], ring), ring)
        self.assertEqual(fitting(LINES, [TT], (((0, 1), (1, 2)), (), ())), ((), (), ()))
        self.assertEqual(fitting(LINES, [TT], (((0, 0), (1, 2), (2, 0)), (), ())), (((0, 0), (1, 2), (2, 0)), (), ()))
        self.assertEqual(fitting(LINES, [TU, UT], (((0, 1),), ((1, 0),), ())), (((0, 1),), ((1, 0),), ()))
        self.assertEqual(fitting(LINES, [TU, UT], (((0, 1),), ((1, 2),), ())), ((), (), ()))

    def test_what_goes_takes_others_with_it(self):
        chain = (((0, 0),), ((1, 2), (2, 0)), ((0, 1, 0), (1, 2, 0), (2, 2, 1)))
        self.assertEqual(fitting(LINES, [WU, WT, UT], chain), (((0, 0),), ((2, 0),), ((1, 2, 0),)))
        self.assertEqual(fitting(LINES, [UT, WU, WT], chain), (((0, 0),), ((2, 0),), ((1, 2, 0),)))
        self.assertEqual(fitting(LINES, [], chain), chain)
        self.assertEqual(fitting(LINES, [UT], ((), ((0, 0), (1, 1)), ())), ((), (), ()))

    def test_the_greatest_one(self):
        seen = {}
        for seed in range(250):
            chance = Chance(seed, LINES)
            references = chance.random.sample(ALL, chance.random.randint(0, 4))
            database = tuple([rows[:chance.random.randint(1, 3)] for rows in chance.database()])
            kept = list(references)
            found = fitting(LINES, references, database)
            good = [one for one in within(database) if fits_by_hand(LINES, references, one)]
            self.assertEqual(found, max(good, key=lambda one: sum(map(len, one))))
            # All that fit are within it.
            self.assertTrue(all([set(part) <= set(whole) for one in good for part, whole in zip(one, found)]))
            self.assertIs(fits(LINES, references, found), True)
            self.assertIs(fits(LINES, references, database), found == database)
            self.assertEqual(references, kept)
            self.assertEqual(fitting(LINES, references[::-1], database), found)
            seen[found == database, found == ((), (), ())] = True
        self.assertTrue({(False, False), (False, True), (True, False)} <= set(seen))


class CascadeTest(unittest.TestCase):
    def gone(self, references, database, table, where):
        """What is left when a delete takes with it all rows from which a chain of references leads to its rows."""
        columns = LINES.columns(table)
        rows = database[LINES.names.index(table)]
        away = {(table, row) for row in rows if set(where) <= set(zip(columns, row))}
        pairs = leaning(LINES, references, database)
        many = -1
        while many < len(away):
            many = len(away)
            away |= {(name, row) for name, row, parent, other in pairs if (parent, other) in away}
        return tuple([tuple([row for row in rows if (name, row) not in away]) for name, rows in zip(LINES.names, database)])

    def test_chains_and_rings(self):
        base = (((0, 1), (1, 2), (2, 0)), ((0, 0), (1, 1)), ((0, 0, 2), (1, 1, 1)))
        given = Rules(LINES, [cascade(LINES, one) for one in (UT, WU)])
        self.assertEqual(run(given, ('delete', 't', (('k', 0),)), base), (((1, 2), (2, 0)), ((1, 1),), ((1, 1, 1),)))
        ring = Rules(LINES, [cascade(LINES, one) for one in (TT, UT)])
        self.assertEqual(run(ring, ('delete', 't', (('k', 0),)), base), ((), (), base[2]))
        both = Rules(LINES, [cascade(LINES, one) for one in (WU, WT)])
        self.assertEqual(run(both, ('delete', 't', (('k', 1),)), base), (((0, 1), (2, 0)), base[1], ((0, 0, 2),)))

    def test_one_end_in_any_order(self):
        """[14]: each statement ends, with one end, and the rows go from which a chain leads to a deleted row."""
        deep = 0
        for seed in range(300):
            chance = Chance(seed, LINES)
            references = chance.random.sample(ALL, chance.random.randint(1, 4))
            given = [cascade(LINES, one) for one in references]
            free = Rules(LINES, given)
            pairs = [pair for pair in free.competing() if pair[0] < pair[1] and chance.random.random() < 0.5]
            database = chance.database()
            table = chance.random.choice(LINES.names)
            statement = ('delete', table, chance.where(table, (), []))
            wanted = self.gone(references, database, table, statement[2])
            for rules in (free, free.ordered(pairs), Rules(LINES, given[::-1])):
                self.assertEqual(run(rules, statement, database, limit=4000), wanted)
                found = decide(rules, [(statement, database)], most=4000)
                self.assertEqual(found[0], 'ends')
                self.assertEqual([row[2] for row in found[1] if row[:2] == (statement, database)], [[wanted]])
            other = chance.statement(table, chance.random.choice(['insert', 'update']))
            self.assertEqual(one_end(free, [(other, database)])[0], 'one')
            self.assertEqual(run(free, other, database), run(Rules(LINES, []), other, database))
            deep += max([row[3] for row in found[1]]) > 1
        self.assertGreater(deep, 10)

    def test_all_starts_of_a_small_schema(self):
        schema = small()
        line = [('a', 't', 'v', 't'), ('b', 't', 'v', 'u'), ('c', 'u', 'k', 't')]
        for many in range(1, 4):
            for some in itertools.combinations(line, many):
                rules = Rules(schema, [cascade(schema, one) for one in some])
                self.assertEqual(one_end(rules)[0], 'one')
                self.assertEqual(least(rules)[0], [])


class BarsTest(unittest.TestCase):
    def test_statements_that_break_a_reference_and_mend_it_again(self):
        given = Rules(LINES, bars(LINES, UT))
        child, parent = ('insert', 'u', (1, 0)), ('insert', 't', (0, 2))
        empty = ((), (), ())
        self.assertEqual(transact(given, empty, [child]), (['done', 'undone'], empty))
        self.assertEqual(transact(given, empty, [child, parent]), (['done'] * 3, (((0, 2),), ((1, 0),), ())))
        full = (((0, 2),), ((1, 0),), ())
        self.assertEqual(transact(given, full, [('delete', 't', ())]), (['done', 'undone'], full))
        self.assertEqual(transact(given, full, [('delete', 't', ()), ('insert', 't', (0, 1))]),
                         (['done'] * 3, (((0, 1),), ((1, 0),), ())))
        self.assertEqual(transact(given, full, [('delete', 't', ()), ('delete', 'u', ())]), (['done'] * 3, empty))
        move = ('update', 'u', (), (('q', 1),))
        self.assertEqual(transact(given, full, [move]), (['done', 'undone'], full))
        self.assertEqual(transact(given, full, [move, ('update', 't', (), (('k', 1),))]),
                         (['done'] * 3, (((1, 2),), ((1, 1),), ())))
        self.assertEqual(transact(given, full, [('update', 't', (), (('k', 1),))]), (['done', 'undone'], full))

    def test_undone_if_and_only_if_it_does_not_fit(self):
        """[14]: with the bars of all references, begun with a database that fits."""
        seen = {}
        for seed in range(1500):
            chance = Chance(seed, LINES)
            references = chance.random.sample(ALL, chance.random.randint(1, 4))
            given = [rule for one in references for rule in bars(LINES, one)]
            chance.random.shuffle(given)
            rules = Rules(LINES, given)
            more = rules + cascade(LINES, references[0]) if len(rules) < 12 else rules
            database = fitting(LINES, references, chance.database())
            deeds = [chance.any_statement() for _ in range(chance.random.randint(1, 5))]
            for either in (rules, more):
                behind = transact(Rules(LINES, [rule for rule in either.rules if rule[4] != 'late']), database, deeds)
                found = transact(either, database, deeds)
                fit = fits_by_hand(LINES, references, behind[1])
                self.assertEqual(found[0], behind[0][:-1] + (['done'] if fit else ['undone']))
                self.assertEqual(found[1], behind[1] if fit else database)
                seen[fit, behind[1] == database] = True
        self.assertEqual(set(seen), {(True, True), (True, False), (False, False)})

    def test_what_is_passed_stays(self):
        references = [UT, WU]
        fits(LINES, references, ((), (), ()))
        fitting(LINES, references, ((), ((0, 0),), ()))
        self.assertEqual(references, [UT, WU])


if __name__ == '__main__':
    unittest.main()
