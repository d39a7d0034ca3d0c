"""[21], [22], [2], [3], [4]: schemas, their rows, contents and databases."""

import copy
import itertools
import unittest

from firingrules.schemas import Schema
from tests.support import any_values, large, nearly, small, told

T = ('t', ('k', 'v'), 1)
U = ('u', ('k',), 1)


def brute_rows(size, columns):
    """All rows, ascending."""
    return sorted(itertools.product(range(size), repeat=len(columns)))


def brute_contents(size, table):
    """All contents of a table, by trying all sets of rows."""
    rows = brute_rows(size, table[1])
    found = []
    for many in range(len(rows) + 1):
        for content in itertools.combinations(rows, many):
            if len({row[:table[2]] for row in content}) == many:
                found.append(content)
    return found


def brute_databases(size, tables):
    """All databases in their order."""
    found = list(itertools.product(*[brute_contents(size, table) for table in tables]))
    by_python = sorted(found)
    return [one for many in range(200) for one in by_python if sum(map(len, one)) == many]


class SchemaTest(unittest.TestCase):
    def test_properties(self):
        for tables in ([T, U], (T, U)):
            schema = Schema(2, tables)
            self.assertEqual(schema.size, 2)
            self.assertEqual(schema.tables, (T, U))
            self.assertIsInstance(schema.tables, tuple)
            self.assertEqual(schema.names, ('t', 'u'))
            self.assertIsInstance(schema.names, tuple)
            self.assertEqual(schema.empty, ((), ()))
            self.assertEqual(schema.many, 36)
            self.assertEqual(len(schema), 2)
            self.assertEqual([schema.columns('t'), schema.columns('u')], [('k', 'v'), ('k',)])
            self.assertEqual([schema.key_count('t'), schema.key_count('u')], [1, 1])

    def test_names_stay_in_their_order(self):
        schema = Schema(3, [('z', ('b', 'a'), 2), ('a', ('z',), 1), ('m', ('c', 'a', 'b'), 3)])
        self.assertEqual(schema.names, ('z', 'a', 'm'))
        self.assertEqual(schema.columns('m'), ('c', 'a', 'b'))
        self.assertEqual([schema.key_count(name) for name in schema.names], [2, 1, 3])
        self.assertEqual([schema.empty, len(schema)], [((), (), ()), 3])

    def test_one_table(self):
        schema = Schema(4, [U])
        self.assertEqual([schema.size, schema.names, schema.empty, len(schema), schema.many], [4, ('u',), ((),), 1, 16])

    def test_many_is_exact(self):
        self.assertEqual(large().many, 5 ** 16 * 2 ** 64 * 5 ** 4)
        self.assertEqual(Schema(4, [('a', ('x', 'y', 'z'), 3)] * 1).many, 2 ** 64)
        three = [(name, ('x', 'y', 'z'), 3) for name in ('a', 'b', 'c')]
        self.assertEqual(Schema(4, three).many, 2 ** 192)
        self.assertEqual(Schema(4, [('a', ('x', 'y', 'z'), 1)]).many, 17 ** 4)
        self.assertEqual(Schema(4, [('a', ('x', 'y', 'z'), 2)]).many, 5 ** 16)
        self.assertEqual(Schema(3, [('a', ('x', 'y', 'z'), 2), U]).many, 4 ** 9 * 8)

    def test_contained_names(self):
        schema = small()
        for thing in any_values():
            self.assertIs(thing in schema, isinstance(thing, str) and thing in ['t', 'u'])
        for thing in ('k', 'tt', 'T', 't ', ['t'], ('t',), {'t'}):
            self.assertIs(thing in schema, False)
            self.assertIs(thing not in schema, True)

    def test_equal(self):
        self.assertTrue(small() == Schema(2, (T, U)))
        self.assertFalse(small() != Schema(2, (T, U)))
        others = [Schema(3, [T, U]), Schema(2, [U, T]), Schema(2, [T]), Schema(2, [T, ('u', ('v',), 1)]),
                  Schema(2, [('t', ('k', 'v'), 2), U]), Schema(2, [T, ('w', ('k',), 1)]), Schema(2, [T, U, ('w', ('k',), 1)])]
        for other in others:
            self.assertIs(small() == other, False)
            self.assertIs(small() != other, True)

    def test_equal_to_nothing_else(self):
        for thing in any_values() + [(2, (T, U)), small().tables]:
            same = isinstance(thing, Schema) and thing.size == 2
            self.assertIs(small() == thing, same)
            self.assertIs(small() != thing, not same)
            self.assertIs(thing == small(), same)

    def test_a_list_that_was_passed_may_change(self):
        tables = [T, U]
        schema = Schema(2, tables)
        tables.append(('w', ('k',), 1))
        tables[0] = ('x', ('y',), 1)
        self.assertEqual(schema, small())
        self.assertEqual([schema.names, schema.many, schema.columns('t')], [('t', 'u'), 36, ('k', 'v')])

    def test_returned_lists_belong_to_the_caller(self):
        schema = small()
        first, whole = schema.rows('t'), schema.databases()
        kept = [list(first), list(whole)]
        first.clear()
        whole.reverse()
        self.assertEqual([schema.rows('t'), schema.databases()], kept)
        self.assertEqual(schema, small())


class SchemaErrorsTest(unittest.TestCase):
    def test_wrong_size(self):
        for size in (1, 0, -2, 5, 10 ** 30, True, False, None, '2', (2,), [2], {}):
            for tables in ([T, U], [], None, [1], [T, T]):
                self.assertEqual(told(Schema, size, tables), ('Wrong', {'place': 0}))

    def test_wrong_tables(self):
        for tables in ([], (), [T] * 4, (1, 2, 3, 4), None, 3, 'tu', {'t': T}, {T}, b't', small()):
            self.assertEqual(told(Schema, 2, tables), ('Wrong', {'place': 1}))

    def test_any_value(self):
        for thing in any_values():
            right = isinstance(thing, int) and not isinstance(thing, bool) and thing in [2, 3, 4]
            if not right:
                self.assertEqual(told(Schema, thing, [T]), ('Wrong', {'place': 0}))
            if isinstance(thing, (list, tuple)) and 1 <= len(thing) <= 3 and thing != (T, U):
                self.assertEqual(told(Schema, 2, thing), ('BadTable', {'at': 0}))
            elif thing != (T, U):
                self.assertEqual(told(Schema, 2, thing), ('Wrong', {'place': 1}))
            for at in range(3):
                tables = [T, U, ('w', ('k',), 1)]
                tables[at] = thing
                self.assertEqual(told(Schema, 2, tables), ('BadTable', {'at': at}))
            for at in range(3):
                table = list(T)
                table[at] = thing
                if at == 2 and isinstance(thing, int) and not isinstance(thing, bool) and thing in [1, 2]:
                    continue
                if at == 0 and isinstance(thing, str) and thing in ['a', 't', 'k', 'v', 'u', 'insert', 'abcdefgh']:
                    continue
                if at == 1 and thing in [('a', 'b'), ('t',), ('refuse',), ('copy', 'lock')]:
                    continue
                self.assertEqual(told(Schema, 2, [tuple(table)]), ('BadTable', {'at': 0}), repr(thing)[:80])
            self.assertEqual(told(Schema, 2, [('t', ('k', thing, 'k'), 1)]), ('BadTable', {'at': 0}))

    def test_bad_tables(self):
        bad = [
            ['t', ('k',), 1], ('t', ['k'], 1), ('t', ('k',)), ('t', ('k',), 1, 1), (('k',), 't', 1), ('t', 1, ('k',)),
            ('t', (), 0), ('t', (), 1), ('t', ('k',), 0), ('t', ('k',), 2), ('t', ('k', 'v'), 3), ('t', ('k',), -1),
            ('t', ('k',), True), ('t', ('k',), None), ('t', ('k', 'k'), 1), ('t', ('k', 'v', 'k'), 1),
            ('t', ('a', 'b', 'c', 'd'), 1), ('T', ('k',), 1), ('', ('k',), 1), ('abcdefghi', ('k',), 1),
            ('t', ('K',), 1), ('t', ('k\n',), 1), ('t', ('abcdefghi',), 1), ('t', (1,), 1), ('t', 'k', 1), (1, ('k',), 1),
            ('t', ('k', 'v', 'w'), 4), ('t', ('k',), '1'), ('t', (('k',),), 1), ('t', ('k', ['v']), 1), 't', (), None,
        ]
        for table in bad:
            for at in range(3):
                tables = [('a', ('x',), 1), ('b', ('x',), 1), ('c', ('x',), 1)]
                tables[at] = table
                self.assertEqual(told(Schema, 2, tables), ('BadTable', {'at': at}))
                self.assertEqual(told(Schema, 2, tuple(tables)), ('BadTable', {'at': at}))

    def test_good_tables(self):
        for table in (('abcdefgh', ('k',), 1), ('t', ('t',), 1), ('t', ('abcdefgh', 'a', 'b'), 3), ('t', ('b', 'a'), 2)):
            self.assertEqual(Schema(2, [table]).tables, (table,))

    def test_the_first_bad_table_is_told(self):
        self.assertEqual(told(Schema, 2, [T, 1, 2]), ('BadTable', {'at': 1}))
        self.assertEqual(told(Schema, 2, [1, T, 2]), ('BadTable', {'at': 0}))

    def test_bad_tables_go_ahead_of_names_that_stand_twice(self):
        self.assertEqual(told(Schema, 2, [T, T, 1]), ('BadTable', {'at': 2}))
        self.assertEqual(told(Schema, 2, [T, T]), ('Twice', {'name': 't'}))

    def test_twice(self):
        self.assertEqual(told(Schema, 2, [U, T, ('u', ('x',), 1)]), ('Twice', {'name': 'u'}))
        self.assertEqual(told(Schema, 2, [T, U, ('u', ('x',), 1)]), ('Twice', {'name': 'u'}))
        self.assertEqual(told(Schema, 2, [U, U, U]), ('Twice', {'name': 'u'}))
        self.assertEqual(told(Schema, 2, [('b', ('x',), 1), T, ('b', ('x',), 1)]), ('Twice', {'name': 'b'}))

    def test_nearly_right_tables(self):
        for table in nearly(('t', ('k', 'v'), 1)):
            outcome = told(Schema, 2, [table])
            self.assertIn(outcome[0], ('returned', 'BadTable'))
            if outcome[0] == 'returned':
                name, columns, keys = table
                self.assertRegex(name, r'\A[a-z]{1,8}\Z')
                self.assertEqual(len(set(columns)), len(columns))
                self.assertIs(type(columns), tuple)
                self.assertIs(type(keys), int)
                self.assertIn(keys, range(1, len(columns) + 1))

    def test_what_is_passed_in_stays(self):
        for thing in any_values():
            if isinstance(thing, (list, dict)):
                kept = copy.copy(thing)
                told(Schema, 2, thing)
                told(Schema, thing, [T])
                told(Schema, 2, [T, thing])
                self.assertEqual(thing, kept)
        tables = [T, T]
        told(Schema, 2, tables)
        self.assertEqual(tables, [T, T])


class ContentsTest(unittest.TestCase):
    def test_rows(self):
        for schema in (small(), large(), Schema(3, [T])):
            for name in schema.names:
                self.assertEqual(schema.rows(name), brute_rows(schema.size, schema.columns(name)))
        self.assertEqual(small().rows('t'), [(0, 0), (0, 1), (1, 0), (1, 1)])

    def test_is_row(self):
        schema = small()
        right = {repr(row) for row in brute_rows(2, 'kv')}
        for thing in nearly((0, 1)) + nearly((1, 0)) + any_values() + [(0, 0), (1, 1), (0,), (0, 1, 0), (2, 0), (0, -1)]:
            self.assertIs(schema.is_row('t', thing), repr(thing) in right)
        for thing in [(True, 0), (0, False), [0, 0], (0, '0'), (0, None), ((0,), 0), {0: 0}, '00', b'00']:
            self.assertIs(schema.is_row('t', thing), False)
        self.assertIs(schema.is_row('u', (0,)), True)
        self.assertIs(schema.is_row('u', (0, 0)), False)
        self.assertIs(schema.is_row('t', (0,)), False)
        self.assertIs(Schema(3, [T]).is_row('t', (2, 2)), True)
        self.assertIs(Schema(3, [T]).is_row('t', (2, 3)), False)

    def test_is_content(self):
        schema = small()
        right = {repr(content) for content in brute_contents(2, T)}
        self.assertEqual(len(right), 9)
        tried = any_values() + [(row, other) for row in schema.rows('t') for other in schema.rows('t')]
        for content in brute_contents(2, T):
            tried += [content] + nearly(content)
        for thing in tried:
            self.assertIs(schema.is_content('t', thing), repr(thing) in right, repr(thing)[:80])

    def test_is_content_order_and_keys(self):
        schema = large()
        self.assertIs(schema.is_content('a', ((0, 0, 3), (0, 1, 0), (1, 0, 0))), True)
        self.assertIs(schema.is_content('a', ((0, 1, 0), (0, 0, 3))), False)
        self.assertIs(schema.is_content('a', ((0, 0, 0), (0, 0, 1))), False)
        self.assertIs(schema.is_content('b', ((0, 0, 0), (0, 0, 1))), True)
        self.assertIs(schema.is_content('b', ((0, 0, 1), (0, 0, 0))), False)
        self.assertIs(schema.is_content('b', ((0, 0, 0), (0, 0, 0))), False)
        self.assertIs(schema.is_content('c', ((0, 0), (1, 0), (2, 0), (3, 0))), True)
        self.assertIs(schema.is_content('c', ((0, 0), (1, 0), (1, 1), (3, 0))), False)
        self.assertIs(schema.is_content('c', ((0, 0, 0),)), False)
        self.assertIs(schema.is_content('b', tuple(schema.rows('b'))), True)
        self.assertIs(schema.is_content('b', schema.rows('b')), False)

    def test_is_database(self):
        schema = small()
        right = {repr(database) for database in brute_databases(2, [T, U])}
        self.assertEqual(len(right), 36)
        tried = any_values() + [((),), ((), (), ()), [(), ()], ((), []), (((0,),), ((0, 0),))]
        for database in brute_databases(2, [T, U]):
            tried += [database] + nearly(database)
        for thing in tried:
            self.assertIs(schema.is_database(thing), repr(thing) in right, repr(thing)[:80])

    def test_any_value_has_an_answer(self):
        schema = large()
        for thing in any_values():
            for name in schema.names:
                self.assertIn(repr(schema.is_row(name, thing)), ('True', 'False'))
                self.assertIn(repr(schema.is_content(name, thing)), ('True', 'False'))
            self.assertIn(repr(schema.is_database(thing)), ('True', 'False'))
        self.assertIs(schema.is_database(schema.empty), True)

    def test_databases(self):
        two = Schema(3, [('x', ('a',), 1), ('y', ('a', 'b'), 1)])
        keys = Schema(2, [('y', ('a', 'b'), 2), ('x', ('a',), 1), ('w', ('c', 'd'), 1)])
        for schema in (small(), Schema(4, [U]), two, keys):
            found = schema.databases(most=4000)
            self.assertEqual(found, brute_databases(schema.size, schema.tables))
            self.assertEqual(len(found), schema.many)
            self.assertTrue(all([schema.is_database(database) for database in found]))
            self.assertEqual(found[0], schema.empty)

    def test_databases_most(self):
        schema = small()
        for most in (36, 37, 1000, 4000):
            self.assertEqual(len(schema.databases(most=most)), 36)
        for most in (35, 1, 2):
            self.assertEqual(told(schema.databases, most=most), ('TooMany', {'limit': most}))

    def test_databases_most_left_out(self):
        thousand = Schema(3, [('x', ('a', 'b', 'c'), 1)])
        self.assertEqual([thousand.many, len(thousand.databases())], [1000, 1000])
        self.assertEqual(told(thousand.databases, most=999), ('TooMany', {'limit': 999}))
        over = Schema(2, [('x', ('a', 'b', 'c'), 3), ('y', ('a',), 1)])
        self.assertEqual([over.many, told(over.databases)], [1024, ('TooMany', {'limit': 1000})])
        self.assertEqual(len(over.databases(most=1024)), 1024)
        self.assertEqual(told(large().databases), ('TooMany', {'limit': 1000}))
        self.assertEqual(told(large().databases, most=4000), ('TooMany', {'limit': 4000}))

    def test_asked_twice(self):
        schema = small()
        self.assertEqual(schema.databases(), schema.databases())
        self.assertIsNot(schema.databases(), schema.databases())
        self.assertIsNot(schema.rows('t'), schema.rows('t'))


if __name__ == '__main__':
    unittest.main()
