"""[30], [31], [3], [4]: statements, their hits, and changes."""

import itertools
import unittest

from firingrules.schemas import Schema
from firingrules.statements import change, hits, is_statement, single
from tests.support import all_statements, any_values, large, nearly, small

ROWS = ((0, 0), (1, 0))


def fits(row, columns, where):
    """Whether a row has the values of a where."""
    return set(where) <= set(zip(columns, row))


def brute_change(schema, table, database, changed):
    """The database behind changes, by sets of rows."""
    at = schema.names.index(table)
    stay = set(database[at]) - {old for old, new in changed}
    rows = sorted(list(stay) + [new for old, new in changed if new is not None])
    keys = [row[:schema.key_count(table)] for row in rows]
    if len(set(keys)) < len(keys):
        return None
    parts = list(database)
    parts[at] = tuple(rows)
    return tuple(parts)


class IsStatementTest(unittest.TestCase):
    def test_all_of_a_schema_and_what_is_nearly_one(self):
        schema = small()
        right = all_statements(schema.tables, (0, 1))
        known = {repr(statement) for statement in right}
        self.assertEqual(len(known), 8 + 9 + 72 + 4 + 3 + 6)
        for statement in right:
            self.assertIs(is_statement(schema, statement), True)
            for thing in nearly(statement):
                self.assertIs(is_statement(schema, thing), repr(thing) in known, repr(thing))

    def test_any_value(self):
        schema = small()
        for thing in any_values():
            self.assertIs(is_statement(schema, thing), thing == ('insert', 't', (0, 1)))
            self.assertIs(is_statement(schema, ('insert', thing, (0, 1))), isinstance(thing, str) and thing == 't')
            self.assertIs(is_statement(schema, (thing, 't', (0, 1))), isinstance(thing, str) and thing == 'insert')
            self.assertIs(is_statement(schema, ('offer', 't', thing)), repr(thing) == '(0, 1)')
            self.assertIs(is_statement(schema, ('delete', 't', thing)), repr(thing) == '()')
            self.assertIs(is_statement(schema, ('update', 't', (), thing)), False)
            self.assertIs(is_statement(schema, ('update', 't', thing, (('v', 1),))), repr(thing) == '()')
            self.assertIs(is_statement(schema, ('delete', 't', (('k', thing),))), repr(thing) in ('0', '1'))
            self.assertIs(is_statement(schema, ('delete', 't', ((thing, 0),))), isinstance(thing, str) and thing in 'kv'
                          and thing != '')

    def test_values_by_the_size(self):
        for size in (2, 3, 4):
            schema = Schema(size, [('t', ('k', 'v'), 1)])
            for value in (-1, 0, 1, 2, 3, 4, 5):
                right = 0 <= value < size
                self.assertIs(is_statement(schema, ('insert', 't', (0, value))), right)
                self.assertIs(is_statement(schema, ('delete', 't', (('v', value),))), right)
                self.assertIs(is_statement(schema, ('update', 't', (), (('v', value),))), right)

    def test_wrong_ones(self):
        schema = small()
        wrong = [
            ('insert', 't', ()), ('insert', 't', (0,)), ('insert', 't', (0, 1, 0)), ('insert', 't', [0, 1]),
            ('insert', 't', (True, 0)), ('insert', 'w', (0, 1)), ('insert', 't'), ('insert', 't', (0, 1), ()),
            ('offer', 'u', (('old', 'k'),)), ('insert', 't', (('new', 'k'), 0)), ('offers', 't', (0, 1)), ('refuse',),
            ('delete', 'u', (('v', 0),)), ('delete', 't', (('k', 0), ('k', 0))), ('delete', 't', (('k', 0), ('k', 1))),
            ('delete', 't', (('v', 0), ('k', 0))), ('delete', 't', ('k', 0)), ('delete', 't', (['k', 0],)),
            ('delete', 't', [('k', 0)]), ('delete', 't', (('k', 0, 0),)), ('delete', 't', (('k',),)), ('delete', 't'),
            ('delete', 't', (), ()), ('delete', 't', None), ('delete', 't', (('k', True),)), ('delete', 't', (('k', 2),)),
            ('delete', 't', (('k', ('new', 'k')),)), ('delete', 't', (('k', None),)), ('delete', 't', ((0, 'k'),)),
            ('update', 't', ()), ('update', 't', (), ()), ('update', 't', (('k', 0),), ()), ('update', 't', (), [('v', 1)]),
            ('update', 't', (), (('v', 1),), ()), ('update', 't', [], (('v', 1),)), ('update', 'u', (), (('v', 1),)),
            ('update', 't', (), (('v', 0), ('k', 0))), ('update', 't', (), (('v', 0), ('v', 0))),
            ('update', 't', (), (('v', ('old', 'k')),)), ('update', 't', (), (('v', False),)), ('turn', 'k', 0), ('skip',),
            ['insert', 't', (0, 1)], ('t', 'insert', (0, 1)), ('INSERT', 't', (0, 1)), (b'insert', 't', (0, 1)),
        ]
        for thing in wrong:
            self.assertIs(is_statement(schema, thing), False, thing)


class HitsTest(unittest.TestCase):
    def test_inserts_and_offers(self):
        schema = small()
        for database in ((ROWS, ()), schema.empty, (((0, 1),), ((0,),))):
            for kind in ('insert', 'offer'):
                for row in schema.rows('t'):
                    self.assertEqual(hits(schema, (kind, 't', row), database), [(None, row)])
                self.assertEqual(hits(schema, (kind, 'u', (1,)), database), [(None, (1,))])

    def test_deletes_and_updates_of_all_databases(self):
        schema = small()
        for statement in all_statements(schema.tables, (0, 1)):
            kind, table = statement[:2]
            if kind in ('insert', 'offer'):
                continue
            columns = schema.columns(table)
            for database in schema.databases():
                rows = [row for row in database[schema.names.index(table)] if fits(row, columns, statement[2])]
                if kind == 'delete':
                    wanted = [(row, None) for row in rows]
                else:
                    sets = dict(statement[3])
                    wanted = [(row, tuple([sets.get(c, v) for c, v in zip(columns, row)])) for row in rows]
                self.assertEqual(hits(schema, statement, database), wanted)

    def test_an_update_that_changes_nothing_hits(self):
        self.assertEqual(hits(small(), ('update', 't', (), (('v', 0),)), (ROWS, ())), [(row, row) for row in ROWS])
        self.assertEqual(hits(small(), ('update', 't', (('v', 0),), (('v', 0),)), (((0, 1),), ())), [])

    def test_many_rows_ascending(self):
        schema = large()
        rows = tuple(schema.rows('b'))
        database = ((), rows, ())
        self.assertEqual(hits(schema, ('delete', 'b', ()), database), [(row, None) for row in rows])
        found = hits(schema, ('update', 'b', (('y', 2),), (('x', 3), ('z', 0))), database)
        self.assertEqual(found, [((x, 2, z), (3, 2, 0)) for x in range(4) for z in range(4)])
        self.assertEqual(hits(schema, ('delete', 'b', (('x', 1), ('z', 3))), database),
                         [((1, y, 3), None) for y in range(4)])
        self.assertEqual(hits(schema, ('delete', 'a', ()), database), [])

    def test_what_is_returned_belongs_to_the_caller(self):
        schema, database = small(), (ROWS, ())
        statement = ('delete', 't', ())
        first = hits(schema, statement, database)
        first.append(1)
        self.assertEqual(hits(schema, statement, database), [((0, 0), None), ((1, 0), None)])
        self.assertEqual([statement, database], [('delete', 't', ()), (ROWS, ())])


class ChangeTest(unittest.TestCase):
    def test_one_tuple(self):
        schema, database = small(), (ROWS, ((1,),))
        self.assertEqual(change(schema, 't', database, []), database)
        self.assertEqual(change(schema, 't', database, [((0, 0), None)]), (((1, 0),), ((1,),)))
        self.assertEqual(change(schema, 't', database, [((0, 0), (0, 1))]), (((0, 1), (1, 0)), ((1,),)))
        self.assertEqual(change(schema, 't', database, [((0, 0), (0, 0))]), database)
        self.assertEqual(change(schema, 't', database, [(None, (0, 0))]), None)
        self.assertEqual(change(schema, 't', database, [(None, (0, 1))]), None)
        self.assertEqual(change(schema, 'u', database, [(None, (0,))]), (ROWS, ((0,), (1,))))
        self.assertEqual(change(schema, 'u', database, [((1,), (0,))]), (ROWS, ((0,),)))

    def test_keys_are_exchanged_or_move_round(self):
        schema = small()
        database = (((0, 0), (1, 1)), ())
        self.assertEqual(change(schema, 't', database, [((0, 0), (1, 0)), ((1, 1), (0, 1))]), (((0, 1), (1, 0)), ()))
        round_four = [((at, 0), ((at + 1) % 4, at)) for at in range(4)]
        schema = large()
        database = ((), (), ((0, 0), (1, 0), (2, 0), (3, 0)))
        self.assertEqual(change(schema, 'c', database, round_four), ((), (), ((0, 3), (1, 0), (2, 1), (3, 2))))

    def test_rows_come_back(self):
        database = (ROWS, ())
        self.assertEqual(change(small(), 't', database, [((0, 0), None), (None, (0, 0))]), database)
        self.assertEqual(change(small(), 't', database, [((0, 0), None), (None, (0, 1))]), (((0, 1), (1, 0)), ()))
        self.assertEqual(change(small(), 't', database, [((0, 0), (1, 0)), ((1, 0), (0, 0))]), database)

    def test_keys_that_are_there(self):
        schema, database = small(), (ROWS, ())
        self.assertIs(change(schema, 't', database, [((0, 0), (1, 1))]), None)
        self.assertIs(change(schema, 't', database, [((0, 0), (1, 0))]), None)
        self.assertIs(change(schema, 't', database, [((0, 0), (0, 1)), ((1, 0), (0, 1))]), None)
        self.assertIs(change(schema, 't', database, [((0, 0), (0, 1)), ((1, 0), (0, 0))]), None)
        self.assertIs(change(schema, 't', schema.empty, [(None, (0, 1)), (None, (0, 1))]), None)
        self.assertIs(change(schema, 't', schema.empty, [(None, (0, 1)), (None, (0, 0))]), None)
        self.assertEqual(change(schema, 't', schema.empty, [(None, (1, 1)), (None, (0, 0))]), (((0, 0), (1, 1)), ()))

    def test_only_the_key_columns_count(self):
        schema = large()
        database = (((0, 0, 0),), ((0, 0, 0),), ())
        self.assertIs(change(schema, 'a', database, [(None, (0, 0, 1))]), None)
        self.assertEqual(change(schema, 'a', database, [(None, (0, 1, 0))])[0], ((0, 0, 0), (0, 1, 0)))
        self.assertEqual(change(schema, 'b', database, [(None, (0, 0, 1))])[1], ((0, 0, 0), (0, 0, 1)))

    def test_small_lists_in_every_order(self):
        schema = small()
        for database in [one for one in schema.databases() if one[1] == ()]:
            moves = [(old, new) for old in database[0] for new in schema.rows('t') + [None]]
            moves += [(None, new) for new in schema.rows('t')]
            for changed in itertools.chain(*[itertools.combinations(moves, many) for many in range(4)]):
                olds = [old for old, new in changed if old is not None]
                if len(set(olds)) < len(olds):
                    continue
                wanted = brute_change(schema, 't', database, changed)
                for order in itertools.permutations(changed):
                    self.assertEqual(change(schema, 't', database, list(order)), wanted)

    def test_what_was_passed_in_stays(self):
        changed = [((0, 0), (1, 1)), ((1, 0), None)]
        database = (ROWS, ())
        self.assertEqual(change(small(), 't', database, changed), change(small(), 't', database, changed))
        self.assertEqual(changed, [((0, 0), (1, 1)), ((1, 0), None)])
        self.assertEqual(database, (ROWS, ()))
        self.assertTrue(small().is_database(change(small(), 't', database, changed)))


class SingleTest(unittest.TestCase):
    def test_two_tables(self):
        self.assertEqual(single(small()), [
            ('delete', 't', (('k', 0),)), ('delete', 't', (('k', 1),)),
            ('delete', 'u', (('k', 0),)), ('delete', 'u', (('k', 1),)),
            ('insert', 't', (0, 0)), ('insert', 't', (0, 1)), ('insert', 't', (1, 0)), ('insert', 't', (1, 1)),
            ('insert', 'u', (0,)), ('insert', 'u', (1,)),
            ('update', 't', (('k', 0),), (('v', 0),)), ('update', 't', (('k', 0),), (('v', 1),)),
            ('update', 't', (('k', 1),), (('v', 0),)), ('update', 't', (('k', 1),), (('v', 1),)),
        ])

    def test_all_columns_are_key_columns(self):
        schema = Schema(2, [('z', ('b', 'a'), 2)])
        keys = [(('b', b), ('a', a)) for b in (0, 1) for a in (0, 1)]
        wanted = [('delete', 'z', key) for key in keys] + [('insert', 'z', (b, a)) for b in (0, 1) for a in (0, 1)]
        self.assertEqual(single(schema), wanted)

    def test_by_the_statements_of_a_schema(self):
        for schema in (small(), large(), Schema(3, [('z', ('c', 'b', 'a'), 1), ('a', ('x', 'y'), 2)])):
            wanted = set()
            for name in schema.names:
                columns, count = schema.columns(name), schema.key_count(name)
                for row in itertools.product(range(schema.size), repeat=len(columns)):
                    pairs = tuple(zip(columns, row))
                    wanted.add(('insert', name, row))
                    wanted.add(('delete', name, pairs[:count]))
                    if pairs[count:]:
                        wanted.add(('update', name, pairs[:count], pairs[count:]))
            found = single(schema)
            self.assertEqual(found, sorted(wanted))
            self.assertTrue(all([is_statement(schema, statement) for statement in found]))

    def test_asked_twice(self):
        schema = small()
        first = single(schema)
        first.clear()
        self.assertEqual(len(single(schema)), 14)


if __name__ == '__main__':
    unittest.main()
