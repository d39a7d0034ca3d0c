"""[103]: desks, whose lines are executed one after another."""

import unittest

from firingrules.books import Book
from firingrules.desk import Desk
from firingrules.notation import show_rule, show_statement
from firingrules.ruleset import Rules
from firingrules.schemas import Schema
from firingrules.tables import decide
from tests.chance import Chance
from tests.support import any_values, large, made, offer, small, told
from tests.worlds import TOWER, idle, tower

DELETE = ('delete', 't', ())
COPY = 'rule copy insert t behind row; do offer u new.k'
LOOP = 'rule loop delete t behind statement; do delete t'
STOP = 'rule stop insert t behind row; if same new.v 1; do refuse'
LATE = 'rule late insert t late row; do refuse'
NO = ('NoCommand', {})
OUTSIDE = ['drop a', 'undo', 'redo', 'show t', 'show u', 'ends', 'begin', COPY, LOOP]


def desk(*lines):
    """A Desk with some lines executed."""
    found = Desk(small())
    for line in lines:
        found.execute(line)
    return found


def shown(given):
    """All that a Desk tells by itself where no transaction has begun."""
    return [given.execute('show t'), given.execute('show u')]


class LinesTest(unittest.TestCase):
    def check(self, given, *pairs):
        """Check the answers of lines, one after another."""
        for line, answer in pairs:
            self.assertEqual(given.execute(line), answer, line)

    def test_wrong(self):
        for thing in any_values() + [Rules(small(), []), 2]:
            if not isinstance(thing, Schema):
                self.assertEqual(told(Desk, thing), ('Wrong', {'place': 0}))
        self.assertEqual(Desk(large()).execute('show a'), 'empty')

    def test_statements(self):
        self.check(desk(), ('insert t 0 1', 'done'), ('insert t 0 0', 'refused'), ('offer t 0 0', 'done'), ('show t', '0 1'),
                   ('update t set v=0', 'done'), ('show t', '0 0'), ('delete t k=0', 'done'), ('show t', 'empty'), ('delete t', 'done'))

    def test_refused_done_and_undone(self):
        given = desk(STOP, COPY, LATE)
        self.check(given, ('insert t 0 1', 'refused'), ('insert t 0 0', 'undone'), ('show t', 'empty'), ('show u', 'empty'),
                   ('insert u 1', 'done'), ('drop late', 'done'), ('insert t 0 0', 'done'), ('show t', '0 0'), ('show u', '0, 1'))

    def test_rules(self):
        given = desk()
        self.check(given, (COPY, 'done'), ('insert t 1 0', 'done'), ('show u', '1'), ('drop copy', 'done'), ('insert t 0 0', 'done'),
                   ('show u', '1'), (COPY, 'done'))
        self.assertEqual(told(given.execute, COPY), ('Twice', {'name': 'copy'}))
        self.assertEqual(told(given.execute, 'rule copy delete u late row; do refuse'), ('Twice', {'name': 'copy'}))
        self.assertEqual(told(given.execute, 'drop loop'), ('NoRule', {'name': 'loop'}))
        for at in range(11):
            given.execute('rule {} delete u behind row; do refuse'.format('abdefghijkl'[at]))
        self.assertEqual(told(given.execute, 'rule z delete u behind row; do refuse'), ('TooMany', {'limit': 12}))
        self.assertEqual(told(given.execute, COPY), ('TooMany', {'limit': 12}))

    def test_rules_with_the_first_one_ahead(self):
        given = desk('rule a insert t behind row; if no u; do refuse', COPY)
        self.check(given, ('insert t 0 0', 'refused'), ('drop a', 'done'), ('insert t 0 0', 'done'),
                   ('rule a insert t behind row; if no u; do refuse', 'done'), ('delete t', 'done'), ('delete u', 'done'),
                   ('insert t 0 0', 'done'))

    def test_undo_and_redo(self):
        given = desk()
        self.assertEqual(told(given.execute, 'undo'), ('Nothing', {}))
        self.assertEqual(told(given.execute, 'redo'), ('Nothing', {}))
        self.check(given, ('insert t 0 1', 'done'), (COPY, 'done'), ('insert t 1 1', 'done'), ('show u', '1'), ('undo', 'done'), ('show u', 'empty'),
                   ('undo', 'done'), ('insert t 1 1', 'done'), ('show u', 'empty'))
        self.assertEqual(told(given.execute, 'redo'), ('Nothing', {}))
        self.check(given, ('undo', 'done'), ('undo', 'done'), ('show t', 'empty'), ('redo', 'done'), ('show t', '0 1'), ('redo', 'done'),
                   ('show t', '0 1, 1 1'))
        self.assertEqual(told(given.execute, 'redo'), ('Nothing', {}))
        # A refused statement is a deed, too; a line that is not executed is none.
        self.check(given, ('undo', 'done'), ('insert t 0 1', 'refused'))
        self.assertEqual(told(given.execute, 'redo'), ('Nothing', {}))
        self.check(given, ('undo', 'done'), ('show t', '0 1'), ('ends', 'yes'))
        self.assertEqual(told(given.execute, 'insert t 0'), NO)
        self.assertEqual(told(given.execute, 'drop copy'), ('NoRule', {'name': 'copy'}))
        self.check(given, ('begin', 'noted'), ('cancel', 'cancelled'), ('redo', 'done'))

    def test_show(self):
        given = desk('insert t 1 0', 'insert t 0 1', 'insert u 1', 'insert u 0')
        self.check(given, ('show t', '0 1, 1 0'), ('show u', '0, 1'))
        other = Desk(large())
        self.check(other, ('show a', 'empty'), ('insert a 3 2 1', 'done'), ('insert a 0 0 2', 'done'), ('insert a 0 3 3', 'done'),
                   ('show a', '0 0 2, 0 3 3, 3 2 1'), ('show b', 'empty'), ('show c', 'empty'))
        for name in ('w', 'k', 'a', 'tt', 'T'):
            self.assertEqual(told(given.execute, 'show ' + name), NO)

    def test_ends(self):
        self.check(desk(), ('ends', 'yes'))
        self.check(desk(COPY, STOP, LATE), ('ends', 'yes'))
        self.check(desk(LOOP), ('ends', 'no delete t k=0'))
        self.check(desk('rule loop delete t behind statement; if some u; do delete t'), ('ends', 'no delete t k=0'))
        self.check(desk('rule a update t behind row; do update t set v=old.v'), ('ends', 'no update t k=0 set v=1'))
        self.check(desk('rule a insert t behind statement; do offer t 0 0'), ('ends', 'no insert t 0 0'))
        given = desk(LOOP, 'drop loop')
        self.check(given, ('ends', 'yes'))
        three = Desk(Schema(2, [('t', ('k', 'v', 'x'), 2), ('u', ('k',), 1)]))
        self.assertEqual(told(three.execute, 'ends'), ('TooMany', {'limit': 1000}))
        self.assertEqual(three.execute('insert u 0'), 'done')

    def test_ends_by_decide(self):
        seen = {}
        for seed in range(40):
            chance = Chance(seed, small())
            chance.focus(2)
            given = [chance.any_rule(name, ('ahead', 'behind', 'late')) for name in 'ab']
            found = decide(Rules(small(), given))
            wanted = 'yes' if found[0] == 'ends' else 'no ' + show_statement(found[1])
            self.check(desk(*[show_rule(rule) for rule in given]), ('ends', wanted))
            seen[wanted[:2]] = True
        self.assertEqual(set(seen), {'ye', 'no'})


class TransactionTest(unittest.TestCase):
    check = LinesTest.check

    def test_commit(self):
        given = desk()
        self.check(given, ('begin', 'noted'), ('insert t 0 1', 'noted'), ('insert t 0 0', 'noted'), ('save a', 'noted'), ('delete t', 'noted'),
                   ('back a', 'noted'), ('commit', 'done refused saved done back done'), ('show t', '0 1'))
        self.check(given, ('begin', 'noted'), ('commit', 'done'), ('undo', 'done'), ('undo', 'done'), ('show t', 'empty'))
        self.check(given, ('redo', 'done'), ('show t', '0 1'))

    def test_one_transaction(self):
        given = desk('rule late insert t late row; if no u k=new.k; do refuse')
        self.check(given, ('begin', 'noted'), ('insert t 0 1', 'noted'), ('insert u 0', 'noted'), ('commit', 'done done done'),
                   ('insert t 1 1', 'undone'), ('begin', 'noted'), ('insert t 1 1', 'noted'), ('commit', 'done undone'), ('show t', '0 1'),
                   ('undo', 'done'), ('undo', 'done'), ('undo', 'done'), ('show t', 'empty'))

    def test_nothing_is_done_ahead_of_commit(self):
        given = desk('begin', 'insert t 0 1')
        self.check(given, ('cancel', 'cancelled'), ('show t', 'empty'))
        self.assertEqual(told(given.execute, 'undo'), ('Nothing', {}))
        self.assertEqual(told(given.execute, 'commit'), NO)
        self.check(given, ('begin', 'noted'), ('commit', 'done'))

    def test_lines_that_are_not_allowed_within(self):
        given = desk('insert t 0 1', 'undo', 'begin', 'insert t 1 0')
        for line in OUTSIDE + ['drop copy', 'insert t 0', 'save', 'back', 'save a b', 'save 1', 'back A', 'commit ', ' cancel', 'Commit']:
            self.assertEqual(told(given.execute, line), NO)
        self.check(given, ('commit', 'done done'), ('show t', '1 0'))
        self.assertEqual(told(given.execute, 'redo'), ('Nothing', {}))

    def test_lines_that_are_not_allowed_outside(self):
        given = desk()
        for line in ('save a', 'back a', 'commit', 'cancel'):
            self.assertEqual(told(given.execute, line), NO)
        self.check(given, ('begin', 'noted'), ('save a', 'noted'), ('commit', 'saved done'))
        for line in ('save a', 'back a', 'commit', 'cancel'):
            self.assertEqual(told(given.execute, line), NO)

    def test_twenty_are_noted_and_no_more(self):
        given = desk('begin')
        for at in range(20):
            self.check(given, (['save a', 'insert t 0 1', 'back a', 'delete t'][at % 4], 'noted'))
        for line in ('insert t 0 1', 'delete t', 'save a', 'back a', 'begin', 'insert t'):
            self.assertEqual(told(given.execute, line), NO)
        self.assertEqual(given.execute('commit'), 'saved done back done ' * 5 + 'done')
        self.check(given, ('begin', 'noted'))
        for _ in range(20):
            self.check(given, ('delete t', 'noted'))
        self.assertEqual(told(given.execute, 'delete t'), NO)
        self.check(given, ('cancel', 'cancelled'), ('begin', 'noted'), ('delete t', 'noted'))

    def test_a_commit_that_raises_an_error(self):
        given = desk(LOOP, 'begin', 'insert t 0 1', 'back a')
        for _ in range(2):
            self.assertEqual(told(given.execute, 'commit'), ('NoSave', {'name': 'a'}))
        for line in OUTSIDE:
            self.assertEqual(told(given.execute, line), NO)
        self.check(given, ('cancel', 'cancelled'), ('show t', 'empty'), ('begin', 'noted'), ('insert t 0 1', 'noted'), ('delete t', 'noted'))
        self.assertEqual(told(given.execute, 'commit'), ('Endless', {}))
        self.check(given, ('save a', 'noted'))
        self.assertEqual(told(given.execute, 'commit'), ('Endless', {}))
        self.check(given, ('cancel', 'cancelled'), ('show t', 'empty'), ('drop loop', 'done'), ('begin', 'noted'), ('commit', 'done'))

    def test_what_was_noted_stays_when_commit_raises_an_error(self):
        given = Desk(small())
        for rule in tower().rules:
            given.execute(show_rule(rule))
        self.check(given, ('begin', 'noted'), ('insert t 0 1', 'noted'))
        self.assertEqual(told(given.execute, 'commit'), ('TooMany', {'limit': 400}))
        for at in range(19):
            self.check(given, ('insert u {}'.format(at % 2), 'noted'))
        self.assertEqual(told(given.execute, 'insert u 0'), NO)
        self.check(given, ('cancel', 'cancelled'), ('show u', 'empty'))


class ErrorsTest(unittest.TestCase):
    def test_the_errors_of_statements(self):
        given = desk(LOOP, 'insert t 0 1', 'insert t 1 1', 'undo')
        kept = shown(given)
        self.assertEqual(told(given.execute, 'delete t'), ('Endless', {}))
        self.assertEqual(shown(given), kept)
        self.assertEqual(given.execute('redo'), 'done')
        other = desk(*[show_rule(rule) for rule in tower().rules])
        self.assertEqual(told(other.execute, show_statement(TOWER[0])), ('TooMany', {'limit': 400}))
        self.assertEqual(shown(other), ['empty', 'empty'])
        flip = desk('rule flip update t late row; do update t set v=old.v', 'insert t 0 1')
        self.assertEqual(told(flip.execute, 'update t set v=0'), ('Endless', {}))
        self.assertEqual(flip.execute('show t'), '0 1')

    def test_a_hundred_entries(self):
        given = desk(*['delete t'] * 100)
        for line in ('insert t 0 1', COPY, 'drop copy'):
            self.assertEqual(told(given.execute, line), ('TooMany', {'limit': 100}))
        given.execute('begin')
        given.execute('insert t 0 1')
        self.assertEqual(told(given.execute, 'commit'), ('TooMany', {'limit': 100}))
        self.assertEqual(told(given.execute, 'show t'), NO)
        given.execute('cancel')
        self.assertEqual(told(given.execute, 'drop'), NO)
        given.execute('undo')
        self.assertEqual(given.execute('insert t 0 1'), 'done')
        self.assertEqual(told(given.execute, 'delete t'), ('TooMany', {'limit': 100}))
        self.assertEqual(given.execute('show t'), '0 1')

    def test_no_command(self):
        lines = ['', ' ', '\n', 'begin ', ' begin', 'begin begin', 'Begin', 'begin\n', 'show', 'show ', 'show t ', 'show  t', ' show t', 'show t u',
                 'show t, u', 'drop', 'drop ', 'drop  copy', 'drop copy ', 'drop copy loop', 'drop Copy', 'drop copyright', 'drop 1', 'drop c1',
                 'undo ', 'undo 1', ' undo', 'undo redo', 'redo ', 'ends ', 'end', 'ends t', 'insert t', 'insert t 0', 'insert t 0 2', 'insert t 0 1 ',
                 'insert  t 0 1', 'insert w 0', 'delete t  k=0', 'delete t k=0 ', 'refuse', 'skip', 'turn v 0', COPY + ' ', ' ' + COPY, COPY + ';',
                 COPY.replace(' ', '  '), COPY.replace('new.k', 'old.k'), 'add ' + COPY, 'drop copy; undo', 'offer u new.k', 'transact', 'log']
        for ahead in ([], [COPY, 'insert t 0 1', 'undo'], ['begin', 'insert t 1 1']):
            given = desk(*ahead)
            for line in lines + any_values() + [['undo'], ('undo',), b'undo', ('insert', 't', (0, 1)), DELETE]:
                self.assertEqual(told(given.execute, line), NO, line)
            if ahead[:1] == ['begin']:
                self.assertEqual(given.execute('commit'), 'done done')
            elif ahead:
                self.assertEqual(given.execute('redo'), 'done')
                self.assertEqual(given.execute('show u'), '0')

    def test_tables_and_rules_with_words_as_names(self):
        given = Desk(Schema(2, [('begin', ('k',), 1), ('undo', ('k',), 1), ('show', ('set',), 1)]))
        self.assertEqual([given.execute(line) for line in (
            'insert begin 0', 'show begin', 'insert undo 1', 'show undo', 'insert show 0', 'show show', 'update show set set=1', 'show show',
            'rule drop delete show behind row; do insert begin old.set', 'delete show', 'show begin', 'undo', 'show show', 'undo', 'redo', 'drop drop',
            'begin', 'save begin', 'back begin', 'commit')],
            ['done', '0', 'done', '1', 'done', '0', 'done', '1', 'done', 'done', '0, 1', 'done', '1', 'done', 'done', 'done', 'noted', 'noted', 'noted',
             'saved back done'])
        self.assertEqual(told(given.execute, 'show begin undo'), NO)


class ByABookTest(unittest.TestCase):
    def test_by_chance(self):
        """Each answer is what a Book tells."""
        seen = {}
        for seed in range(120):
            chance = Chance(seed, Schema(2, [('t', ('k', 'v'), 1), ('u', ('a',), 1)]))
            chance.focus(3)
            given, book, noted = Desk(chance.schema), Book(Rules(chance.schema, []), chance.schema.empty), None
            for _ in range(30):
                way, deed = self.line(chance)
                found = told(given.execute, way)
                wanted, noted = self.wanted(book, noted, way, deed)
                self.assertEqual(found, wanted, way)
                seen[found[0], found[1] if isinstance(found[1], str) else ''] = True
        for one in [('returned', 'done'), ('returned', 'undone'), ('returned', 'refused'), ('returned', 'noted'), ('returned', 'cancelled'),
                    ('returned', 'empty'), ('Nothing', ''), ('NoCommand', ''), ('Twice', ''), ('NoRule', ''), ('NoSave', ''), ('Endless', '')]:
            self.assertIn(one, seen)

    def line(self, chance):
        """A line, and the deed that it writes, if it writes one."""
        way = chance.random.random()
        if way < 0.35:
            statement = chance.any_statement()
            return show_statement(statement), statement
        if way < 0.5:
            rule = chance.any_rule(chance.random.choice('abcd'), ('ahead', 'behind', 'late'))
            return show_rule(rule), rule
        if way < 0.65:
            deed = (chance.random.choice(['save', 'back', 'drop']), chance.random.choice('abcd'))
            return ' '.join(deed), deed
        return chance.random.choice(['begin', 'commit', 'commit', 'cancel', 'undo', 'redo', 'show t', 'show u', 'nothing']), None

    def wanted(self, book, noted, line, deed):
        """What a line returns or raises, and what is noted behind it."""
        if noted is not None:
            if line == 'cancel':
                return ('returned', 'cancelled'), None
            if line == 'commit':
                found = told(book.do, ('transact', noted))
                return (('returned', ' '.join(found[1])), None) if found[0] == 'returned' else (found, noted)
            if deed is None or len(deed) == 8 or deed[0] == 'drop' or len(noted) == 20:
                return NO, noted
            return ('returned', 'noted'), noted + [deed]
        if line == 'begin':
            return ('returned', 'noted'), []
        if line in ('undo', 'redo'):
            found = told(book.undo if line == 'undo' else book.redo)
        elif line in ('show t', 'show u'):
            rows = book.database[['show t', 'show u'].index(line)]
            return ('returned', ', '.join([' '.join(map(str, row)) for row in rows]) or 'empty'), None
        elif deed is None or deed[0] in ('save', 'back'):
            return NO, None
        elif len(deed) == 8 or deed[0] == 'drop':
            found = told(book.do, ('add', deed) if len(deed) == 8 else deed)
        else:
            found = told(book.do, ('transact', [deed]))
            if found[0] == 'returned':
                found = ('returned', 'refused' if found[1][0] == 'refused' else found[1][1])
        return (('returned', found[1] or 'done'), None) if found[0] == 'returned' else (found, None)


class ManyTest(unittest.TestCase):
    def test_desks_are_independent(self):
        one, other = desk(COPY), desk()
        one.execute('insert t 0 1')
        one.execute('begin')
        self.assertEqual(shown(other), ['empty', 'empty'])
        self.assertEqual(other.execute('insert t 0 0'), 'done')
        self.assertEqual(shown(other), ['0 0', 'empty'])
        one.execute('cancel')
        self.assertEqual(shown(one), ['0 1', '0'])

    def test_idle_rules_may_be_written(self):
        given = desk(show_rule(idle('z', 't', 'insert')), show_rule(made('y', table='u', actions=[offer(0)])))
        self.assertEqual(given.execute('insert u 1'), 'done')
        self.assertEqual(given.execute('show u'), '0, 1')


if __name__ == '__main__':
    unittest.main()
