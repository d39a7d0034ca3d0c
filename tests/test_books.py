"""[100]: books, with deeds that are done, taken back, and done in the past."""

import copy
import unittest

from firingrules.books import Book
from firingrules.ruleset import Rules
from firingrules.schemas import Schema
from firingrules.statements import is_statement
from firingrules.transactions import transact
from firingrules.words import is_name
from tests.chance import Chance
from tests.support import any_values, large, made, nearly, offer, small, told
from tests.worlds import TOWER, idle, tower

NEW = ('insert', 't', (0, 1))
OTHER = ('insert', 't', (1, 1))
DELETE = ('delete', 't', ())
EMPTY = ((), ())
ONE = (((0, 1),), ())
COPY = made('copy', actions=[('offer', 'u', (('new', 'k'),))])
LOOP = made('loop', 'delete', [DELETE], level='statement')
STOP = made('stop')
UNDO = made('late', when='late')


def rules(*given, pairs=()):
    """Rules of the small schema."""
    return Rules(small(), given, pairs)


def plain():
    """A Book without rules and rows."""
    return Book(rules(), EMPTY)


def does(*deeds):
    """A transaction."""
    return ('transact', list(deeds))


def state(book):
    """All that a Book tells."""
    return copy.deepcopy([book.rules.rules, book.rules.pairs, book.database, book.log, len(book)])


def again(book):
    """How many entries may be done again, by a branch."""
    other, many = book.branch(), 0
    while told(other.redo)[0] == 'returned':
        many += 1
    return many


class BookTest(unittest.TestCase):
    def test_a_new_one(self):
        given = rules(COPY, STOP, pairs=[('stop', 'copy')])
        book = Book(given, ONE)
        self.assertEqual([book.rules, book.database, book.log, len(book)], [given, ONE, [], 0])

    def test_wrong(self):
        for thing in any_values():
            if not isinstance(thing, Rules):
                self.assertEqual(told(Book, thing, EMPTY), ('Wrong', {'place': 0}))
                self.assertEqual(told(Book, thing, thing), ('Wrong', {'place': 0}))
            if thing != EMPTY:
                self.assertEqual(told(Book, rules(), thing), ('Wrong', {'place': 1}))
        for thing in nearly(EMPTY) + nearly(ONE):
            if not small().is_database(thing):
                self.assertEqual(told(Book, rules(), thing), ('Wrong', {'place': 1}))
        self.assertEqual(told(Book, rules(), large().empty), ('Wrong', {'place': 1}))
        self.assertEqual(told(Book, rules(), (((0, 2),), ())), ('Wrong', {'place': 1}))
        self.assertEqual(told(Book, small(), EMPTY), ('Wrong', {'place': 0}))


class DoTest(unittest.TestCase):
    def test_transactions(self):
        book = Book(rules(COPY, UNDO), EMPTY)
        book.do(('drop', 'late'))
        self.assertEqual(book.do(does()), ['done'])
        self.assertEqual(book.do(does(NEW, NEW)), ['done', 'refused', 'done'])
        self.assertEqual(book.database, (((0, 1),), ((0,),)))
        self.assertEqual(book.do(does(('save', 'a'), DELETE, ('back', 'a'), OTHER)), ['saved', 'done', 'back', 'done', 'done'])
        self.assertEqual(book.database, (((0, 1), (1, 1)), ((0,), (1,))))
        self.assertIsNone(book.do(('add', UNDO)))
        self.assertEqual(book.do(does(DELETE, NEW)), ['done', 'done', 'done'])
        self.assertEqual(book.do(does(OTHER)), ['done', 'undone'])
        self.assertEqual(book.database, (((0, 1),), ((0,), (1,))))
        self.assertEqual(len(book), 7)
        self.assertEqual(book.log, [
            (('drop', 'late'), None), (does(), ['done']), (does(NEW, NEW), ['done', 'refused', 'done']),
            (does(('save', 'a'), DELETE, ('back', 'a'), OTHER), ['saved', 'done', 'back', 'done', 'done']),
            (('add', UNDO), None), (does(DELETE, NEW), ['done', 'done', 'done']), (does(OTHER), ['done', 'undone'])])

    def test_add_and_drop(self):
        book = Book(rules(STOP, COPY, pairs=[('stop', 'copy')]), EMPTY)
        self.assertIsNone(book.do(('add', LOOP)))
        self.assertEqual(book.rules, rules(STOP, COPY, LOOP, pairs=[('stop', 'copy')]))
        self.assertIsNone(book.do(('drop', 'stop')))
        self.assertEqual(book.rules, rules(COPY, LOOP))
        self.assertEqual(book.log, [(('add', LOOP), None), (('drop', 'stop'), None)])
        self.assertEqual(book.do(does(NEW)), ['done', 'done'])
        self.assertEqual(book.database, (((0, 1),), ((0,),)))

    def test_the_errors_of_transactions(self):
        book = Book(rules(LOOP), ONE)
        book.do(does())
        book.do(does(OTHER))
        book.undo()
        flip = made('flip', 'update', [('update', 't', (), (('v', ('old', 'v')),))], when='late')
        kept = state(book)
        for deed, error in [(does(DELETE), ('Endless', {})), (does(NEW, DELETE, ('back', 'a')), ('Endless', {})),
                            (does(('back', 'a'), DELETE), ('NoSave', {'name': 'a'})),
                            (does(('save', 'b'), ('back', 'a')), ('NoSave', {'name': 'a'}))]:
            self.assertEqual(told(book.do, deed), error)
            self.assertEqual(state(book), kept)
            self.assertEqual(again(book), 1)
        commit = Book(rules(flip), ONE)
        self.assertEqual(told(commit.do, does(('update', 't', (), (('v', 0),)))), ('Endless', {}))
        self.assertEqual(state(commit), state(Book(rules(flip), ONE)))

    def test_the_limit_of_400(self):
        book = Book(tower(), EMPTY)
        self.assertEqual(told(book.do, does(TOWER[0])), ('TooMany', {'limit': 400}))
        self.assertEqual(len(book), 0)
        large_book = Book(Rules(large(), [idle('abcdefg'[at], 'b', 'delete', 'row') for at in range(7)]),
                          ((), tuple(large().rows('b')), ()))
        self.assertEqual(told(large_book.do, does(('delete', 'b', ()))), ('TooMany', {'limit': 400}))
        large_book.do(('drop', 'g'))
        self.assertEqual(large_book.do(does(('delete', 'b', ()))), ['done', 'done'])

    def test_the_errors_of_rules(self):
        book = Book(rules(COPY, STOP), EMPTY)
        book.do(does(NEW))
        book.undo()
        kept = state(book)
        for thing in any_values():
            if not isinstance(thing, tuple) or len(thing) != 8:
                self.assertEqual(told(book.do, ('add', thing)), ('BadRule', {'at': 2}))
            error, fields = told(book.do, ('drop', thing))
            self.assertEqual(error, 'NoRule')
            self.assertIs(fields['name'], thing)
        self.assertEqual(told(book.do, ('add', made('copy', 'delete'))), ('Twice', {'name': 'copy'}))
        self.assertEqual(told(book.do, ('add', made('copy', table='w'))), ('BadRule', {'at': 2}))
        self.assertEqual(told(book.do, ('drop', 'loop')), ('NoRule', {'name': 'loop'}))
        self.assertEqual(state(book), kept)
        self.assertEqual(again(book), 1)
        twelve = Book(rules(*[idle('abcdefghijkl'[at], 't', 'insert') for at in range(12)]), EMPTY)
        self.assertEqual(told(twelve.do, ('add', 'nothing')), ('TooMany', {'limit': 12}))
        self.assertEqual(told(twelve.do, ('add', idle('a', 't', 'insert'))), ('TooMany', {'limit': 12}))

    def wrong_deeds(self):
        """Values that are no deeds."""
        found = [thing for thing in any_values()]
        for deeds in ([NEW], [('save', 'a')], [('back', 'a')]):
            found += [(word, deeds) for word in ('do', 'Transact', 'transact ', '', None, 0, b'transact', ('transact',), ['transact'])]
            found += [('transact',), ('transact', deeds, None), ['transact', deeds], (deeds, 'transact'), ('transact', tuple(deeds)),
                      ('transact', {0: deeds[0]}), ('transact', deeds[0]), ('transact', [deeds])]
        for bad in nearly(NEW) + nearly(('update', 't', (('k', 0),), (('v', 1),))) + nearly(('save', 'a')) + any_values():
            if not self.is_good(bad):
                found += [('transact', [bad]), ('transact', [NEW, bad]), ('transact', [bad, NEW])]
        found += [('transact', [NEW] * 21), ('transact', [('save', 'a')] * 30), ('transact', [('transact', [])])]
        found += [('add',), ('drop',), ('add', COPY, None), ['add', COPY], ('Add', COPY), (None, COPY), (('add',), COPY)]
        return found

    def is_good(self, thing):
        """Whether one of the values above may stand in the list of a transaction."""
        if isinstance(thing, tuple) and len(thing) == 2 and thing[0] in ('save', 'back'):
            return is_name(thing[1])
        return is_statement(small(), thing)

    def test_wrong(self):
        book = Book(rules(COPY), ONE)
        book.do(does())
        kept = state(book)
        for deed in self.wrong_deeds():
            self.assertEqual(told(book.do, deed), ('Wrong', {'place': 0}))
            self.assertEqual(told(book.before, 0, deed), ('Wrong', {'place': 1}))
        self.assertEqual(state(book), kept)
        self.assertEqual(book.do(('transact', [NEW] * 20)), ['refused'] * 20 + ['done'])

    def test_statements_of_another_schema(self):
        book = Book(Rules(large(), []), large().empty)
        self.assertEqual(told(book.do, does(NEW)), ('Wrong', {'place': 0}))
        self.assertEqual(book.do(does(('insert', 'c', (3, 3)))), ['done', 'done'])
        self.assertEqual(told(plain().do, does(('insert', 'c', (3, 3)))), ('Wrong', {'place': 0}))
        self.assertEqual(told(book.do, ('add', COPY)), ('BadRule', {'at': 0}))

    def test_a_hundred_entries(self):
        book = Book(rules(COPY), EMPTY)
        for _ in range(99):
            book.do(does())
        self.assertEqual(len(book), 99)
        self.assertEqual(book.do(does(NEW)), ['done', 'done'])
        kept = state(book)
        for deed in (does(), does(DELETE), does(('back', 'a')), ('add', COPY), ('add', None), ('drop', 'none'), ('drop', None)):
            self.assertEqual(told(book.do, deed), ('TooMany', {'limit': 100}))
            for at in (0, 50, 100):
                self.assertEqual(told(book.before, at, deed), ('TooMany', {'limit': 100}))
        self.assertEqual(told(book.do, does(None)), ('Wrong', {'place': 0}))
        self.assertEqual(told(book.before, 0, None), ('Wrong', {'place': 1}))
        self.assertEqual(told(book.before, 101, None), ('NoEntry', {'at': 101}))
        self.assertEqual(state(book), kept)
        book.undo()
        self.assertEqual(book.before(0, does()), [])
        self.assertEqual(len(book), 100)
        book.undo()
        book.redo()
        self.assertEqual(len(book), 100)


class UndoTest(unittest.TestCase):
    def test_undo_and_redo(self):
        book = plain()
        states = [state(book)]
        for deed in (does(NEW), ('add', COPY), does(OTHER), ('drop', 'copy'), does(DELETE)):
            book.do(deed)
            states.append(state(book))
        for at in range(4, -1, -1):
            self.assertIsNone(book.undo())
            self.assertEqual(state(book), states[at])
        self.assertEqual(told(book.undo), ('Nothing', {}))
        self.assertEqual(state(book), states[0])
        for at in range(1, 6):
            self.assertIsNone(book.redo())
            self.assertEqual(state(book), states[at])
        self.assertEqual(told(book.redo), ('Nothing', {}))
        self.assertEqual(state(book), states[5])

    def test_nothing(self):
        book = plain()
        self.assertEqual(told(book.undo), ('Nothing', {}))
        self.assertEqual(told(book.redo), ('Nothing', {}))
        book.do(does(NEW))
        self.assertEqual(told(book.redo), ('Nothing', {}))
        book.undo()
        self.assertEqual(told(book.undo), ('Nothing', {}))
        book.redo()
        self.assertEqual(book.database, ONE)

    def test_nothing_to_redo_behind_another_deed(self):
        for deed in (does(), ('add', COPY), does(NEW)):
            book = plain()
            book.do(does(NEW))
            book.undo()
            book.do(deed)
            self.assertEqual(told(book.redo), ('Nothing', {}))
            book.undo()
            book.redo()
            self.assertEqual(book.log[0][0], deed)

    def test_nothing_to_redo_behind_a_before(self):
        book = plain()
        book.do(does(NEW))
        book.do(does(OTHER))
        book.undo()
        book.before(1, does())
        self.assertEqual(told(book.redo), ('Nothing', {}))

    def test_still_all_behind_a_deed_that_is_refused(self):
        book = Book(rules(LOOP), EMPTY)
        book.do(does(NEW))
        book.do(does(OTHER))
        book.undo()
        book.undo()
        for call in (lambda: book.do(None), lambda: book.do(does(DELETE)), lambda: book.do(('drop', 'none')),
                     lambda: book.before(7, does()), lambda: book.before(0, None), lambda: book.before(0, does(DELETE)),
                     lambda: book.until(7), book.undo):
            self.assertNotEqual(told(call)[0], 'returned')
        self.assertEqual(again(book), 2)
        book.redo()
        book.redo()
        self.assertEqual(book.database, (((0, 1), (1, 1)), ()))

    def test_a_statement_that_is_refused_is_a_deed(self):
        book = Book(rules(), ONE)
        book.do(does(OTHER))
        book.undo()
        self.assertEqual(book.do(does(NEW)), ['refused', 'done'])
        self.assertEqual(told(book.redo), ('Nothing', {}))


class BeforeTest(unittest.TestCase):
    def filled(self):
        """A Book with four entries."""
        book = plain()
        for deed in (does(NEW), ('add', COPY), does(OTHER, ('save', 'a')), does(NEW)):
            book.do(deed)
        return book

    def test_at_every_index(self):
        for at in range(5):
            book = self.filled()
            log = book.log
            self.assertEqual(book.before(at, does(('insert', 'u', (0,)))), [])
            self.assertEqual(book.log, log[:at] + [(does(('insert', 'u', (0,))), ['done', 'done'])] + log[at:])
            self.assertEqual(book.database, (((0, 1), (1, 1)), ((0,), (1,))))
            self.assertEqual(len(book), 5)
            for _ in range(5):
                book.undo()
            self.assertEqual(state(book), state(plain()))

    def test_entries_whose_told_words_change(self):
        book = self.filled()
        # With the row there the first insert is refused; the others tell what they told.
        self.assertEqual(book.before(0, does(NEW)), [0])
        self.assertEqual([told_words for _, told_words in book.log],
                         [['done', 'done'], ['refused', 'done'], None, ['done', 'saved', 'done'], ['refused', 'done']])
        book = self.filled()
        self.assertEqual(book.before(0, ('add', STOP)), [0, 2])
        self.assertEqual(book.database, EMPTY)
        self.assertEqual(book.rules, rules(STOP, COPY))
        book = self.filled()
        self.assertEqual(book.before(1, does(DELETE, ('insert', 't', (1, 0)))), [2, 3])
        self.assertEqual([told_words for _, told_words in book.log][3:], [['refused', 'saved', 'done'], ['done', 'done']])
        book = self.filled()
        self.assertEqual(book.before(2, ('add', UNDO)), [2])
        self.assertEqual([told_words for _, told_words in book.log][3:], [['done', 'saved', 'undone'], ['refused', 'done']])
        # The database may be another one, if the words are the same.
        book = self.filled()
        self.assertEqual(book.before(2, ('drop', 'copy')), [])
        self.assertEqual(book.database, (((0, 1), (1, 1)), ()))

    def test_entries_that_are_refused_then(self):
        book = self.filled()
        book.do(('drop', 'copy'))
        book.undo()
        kept = state(book)
        self.assertEqual(told(book.before, 0, ('add', COPY)), ('Stopped', {'at': 1}))
        self.assertEqual(told(book.before, 1, ('add', made('copy', 'delete'))), ('Stopped', {'at': 1}))
        self.assertEqual(told(book.before, 0, ('add', made('loop', actions=[NEW, NEW], level='statement')))[0], 'returned')
        book = self.filled()
        book.do(('drop', 'copy'))
        book.do(does(DELETE))
        book.undo()
        kept = state(book)
        self.assertEqual(told(book.before, 2, ('drop', 'copy')), ('Stopped', {'at': 4}))
        self.assertEqual(told(book.before, 4, ('drop', 'copy')), ('Stopped', {'at': 4}))
        self.assertEqual(state(book), kept)
        self.assertEqual(again(book), 1)
        self.assertEqual(book.before(5, ('add', LOOP)), [])
        self.assertEqual(len(book), 6)

    def test_transactions_that_are_refused_then(self):
        book = plain()
        book.do(does(NEW))
        book.do(does(DELETE))
        book.do(does(NEW))
        kept = state(book)
        for at in (0, 1):
            self.assertEqual(told(book.before, at, ('add', LOOP)), ('Stopped', {'at': 1}))
        self.assertEqual(state(book), kept)
        self.assertEqual(book.before(2, ('add', LOOP)), [])
        self.assertEqual(told(book.do, does(DELETE)), ('Endless', {}))

    def test_the_first_one_that_is_refused(self):
        book = plain()
        book.do(('add', COPY))
        book.do(('add', STOP))
        book.do(('add', LOOP))
        self.assertEqual(told(book.before, 0, ('add', LOOP)), ('Stopped', {'at': 2}))
        self.assertEqual(told(book.before, 0, ('add', STOP)), ('Stopped', {'at': 1}))
        twelve = Book(rules(*[idle('abcdefghij'[at], 't', 'insert') for at in range(10)]), EMPTY)
        twelve.do(does())
        twelve.do(('add', COPY))
        twelve.do(('add', STOP))
        self.assertEqual(told(twelve.before, 1, ('add', LOOP)), ('Stopped', {'at': 2}))
        self.assertEqual(told(twelve.before, 3, ('add', LOOP)), ('TooMany', {'limit': 12}))

    def test_no_entry(self):
        book = self.filled()
        kept = state(book)
        for thing in any_values() + [5, -1, 6, 10 ** 30]:
            if not isinstance(thing, int) or isinstance(thing, bool) or not 0 <= thing <= 4:
                for deed in (does(), None, ('add', COPY)):
                    error, fields = told(book.before, thing, deed)
                    self.assertEqual(error, 'NoEntry')
                    self.assertIs(fields['at'], thing)
        self.assertEqual(told(book.before, True, does()), ('NoEntry', {'at': True}))
        self.assertEqual(state(book), kept)
        self.assertEqual(told(plain().before, 1, does()), ('NoEntry', {'at': 1}))
        self.assertEqual(plain().before(0, does()), [])

    def test_the_errors_of_the_deed(self):
        book = self.filled()
        kept = state(book)
        self.assertEqual(told(book.before, 2, ('add', COPY)), ('Twice', {'name': 'copy'}))
        self.assertEqual(told(book.before, 1, ('drop', 'copy')), ('NoRule', {'name': 'copy'}))
        self.assertEqual(told(book.before, 1, ('add', None)), ('BadRule', {'at': 0}))
        self.assertEqual(told(book.before, 2, ('add', None)), ('BadRule', {'at': 1}))
        self.assertEqual(told(book.before, 0, does(('back', 'a'))), ('NoSave', {'name': 'a'}))
        self.assertEqual(state(book), kept)
        loops = Book(rules(LOOP), EMPTY)
        self.assertEqual(told(loops.before, 0, does(DELETE)), ('Endless', {}))


class UntilTest(unittest.TestCase):
    def test_until(self):
        book = Book(rules(UNDO), ONE)
        states = [state(book)]
        for deed in (('drop', 'late'), does(DELETE), does(OTHER)):
            book.do(deed)
            states.append(state(book))
        for index in range(4):
            other = book.until(index)
            self.assertEqual(state(other), states[index])
            self.assertEqual(told(other.redo), ('Nothing', {}))
        for thing in any_values() + [5, -1, True]:
            if not isinstance(thing, int) or isinstance(thing, bool) or not 0 <= thing <= 3:
                error, fields = told(book.until, thing)
                self.assertEqual(error, 'NoEntry')
                self.assertIs(fields['at'], thing)
        book.undo()
        self.assertEqual(told(book.until, 3), ('NoEntry', {'at': 3}))
        self.assertEqual(told(book.until(2).redo), ('Nothing', {}))
        self.assertEqual(again(book), 1)

    def test_each_goes_on_independently(self):
        book = plain()
        book.do(does(NEW))
        book.do(('add', COPY))
        book.undo()
        for other in (book.until(1), book.branch()):
            kept = state(book)
            other.do(does(OTHER))
            other.before(0, ('add', COPY))
            self.assertEqual(state(book), kept)
            self.assertEqual(again(book), 1)
            kept = state(other)
            mine = book.branch()
            mine.redo()
            mine.do(does(DELETE))
            self.assertEqual(state(other), kept)
            for _ in range(3):
                other.undo()
            self.assertEqual(state(other), state(plain()))

    def test_branch(self):
        book = plain()
        for deed in (does(NEW), does(OTHER), ('add', COPY)):
            book.do(deed)
        book.undo()
        book.undo()
        other = book.branch()
        self.assertEqual(state(other), state(book))
        self.assertEqual(again(other), 2)
        other.redo()
        self.assertEqual(other.database, (((0, 1), (1, 1)), ()))
        self.assertEqual(book.database, ONE)
        book.do(does(DELETE))
        other.redo()
        self.assertEqual(other.rules, rules(COPY))
        self.assertEqual(told(book.redo), ('Nothing', {}))


class CopiesTest(unittest.TestCase):
    def test_the_caller_changes_lists(self):
        book = plain()
        deed = does(NEW)
        words = book.do(deed)
        kept = state(book)
        deed[1].append(DELETE)
        words.append('more')
        self.assertEqual(state(book), kept)
        log = book.log
        log[0][0][1].clear()
        log[0][1].clear()
        log.clear()
        self.assertEqual(state(book), kept)
        past = does(OTHER)
        found = book.before(0, past)
        self.assertEqual(found, [])
        found.append(7)
        past[1].clear()
        self.assertEqual(book.log, [(does(OTHER), ['done', 'done']), (does(NEW), ['done', 'done'])])
        book.undo()
        book.log[0][0][1].clear()
        other = book.branch()
        other.log[0][0][1].clear()
        book.redo()
        self.assertEqual(book.log, [(does(OTHER), ['done', 'done']), (does(NEW), ['done', 'done'])])
        self.assertEqual(book.before(0, does()), [])

    def test_asked_twice(self):
        given = rules(COPY)
        book = Book(given, EMPTY)
        book.do(does(NEW))
        self.assertEqual(state(book), state(book))
        self.assertEqual([given, book.rules == given, len(book)], [rules(COPY), True, 1])
        self.assertEqual(state(book.until(1)), state(book))


class Plain:
    """A Book that does all again from the beginning each time."""

    def __init__(self, given, database):
        self.first, self.deeds, self.undone = (given, database), [], []

    def replay(self, deeds):
        """The Rules, the database and the log behind deeds; or the index of the deed that raises an error, and it."""
        (given, database), log = self.first, []
        for at, deed in enumerate(deeds):
            words = None
            if deed[0] == 'transact':
                found = told(transact, given, database, deed[1])
                words, database = found[1] if found[0] == 'returned' else (None, database)
            else:
                found = told(lambda: given + deed[1] if deed[0] == 'add' else given - deed[1])
                given = found[1] if found[0] == 'returned' else given
            if found[0] != 'returned':
                return at, found
            log.append((deed, words))
        return given, database, log

    def before(self, at, deed):
        """What before tells."""
        if not 0 <= at <= len(self.deeds):
            return ('NoEntry', {'at': at})
        old = self.replay(self.deeds)[2]
        found = self.replay(self.deeds[:at] + [deed] + self.deeds[at:])
        if isinstance(found[0], int):
            return found[1] if found[0] == at else ('Stopped', {'at': found[0] - 1})
        self.deeds.insert(at, deed)
        self.undone = []
        words = [one for _, one in found[2]]
        del words[at]
        return ('returned', [index for index, (_, one) in enumerate(old) if words[index] != one])


class ByDoingAllAgainTest(unittest.TestCase):
    def test_by_chance(self):
        seen = {}
        for seed in range(150):
            chance = Chance(seed, Schema(2, [('t', ('k', 'v'), 1), ('u', ('a',), 1)]))
            chance.focus(3)
            given = chance.any_rules(2, whens=('behind', 'late'))
            database = chance.database()
            book, other = Book(given, database), Plain(given, database)
            for _ in range(25):
                way = chance.random.choice(['do', 'do', 'do', 'before', 'before', 'undo', 'redo', 'branch', 'until'])
                deed = self.deed(chance)
                if way == 'do':
                    found, wanted = told(book.do, deed), other.replay(other.deeds + [deed])
                    if isinstance(wanted[0], int):
                        self.assertEqual(found, wanted[1])
                    else:
                        self.assertEqual(found, ('returned', wanted[2][-1][1]))
                        other.deeds, other.undone = other.deeds + [deed], []
                elif way == 'before':
                    at = chance.random.randint(-1, len(book) + 1)
                    found = told(book.before, at, deed)
                    self.assertEqual(found, other.before(at, deed))
                    seen['changed'] = seen.get('changed') or found[0] == 'returned' and found[1] != []
                elif way == 'undo':
                    found = told(book.undo)
                    self.assertEqual(found, ('returned', None) if other.deeds else ('Nothing', {}))
                    other.undone = other.undone + other.deeds[-1:]
                    other.deeds = other.deeds[:-1]
                elif way == 'redo':
                    found = told(book.redo)
                    self.assertEqual(found, ('returned', None) if other.undone else ('Nothing', {}))
                    other.deeds = other.deeds + other.undone[-1:]
                    other.undone = other.undone[:-1]
                elif way == 'branch':
                    book = book.branch()
                elif chance.random.random() < 0.3:
                    book, other.deeds, other.undone = book.until(len(book) // 2), other.deeds[:len(book) // 2], []
                wanted = other.replay(other.deeds)
                self.assertEqual((book.rules, book.database, book.log), wanted)
                self.assertEqual(len(book), len(other.deeds))
                seen[way, found[0]] = True
        self.assertTrue({('do', 'returned'), ('do', 'Endless'), ('do', 'NoRule'), ('do', 'Twice'), ('do', 'NoSave'), ('before', 'returned'),
                         ('before', 'Stopped'), ('before', 'NoEntry'), ('undo', 'Nothing'), ('redo', 'returned'), ('redo', 'Nothing')}
                        <= set(seen), seen)
        self.assertTrue(seen['changed'])

    def deed(self, chance):
        """A deed."""
        way = chance.random.random()
        if way < 0.2:
            return ('add', chance.any_rule(chance.random.choice('abcde'), ('ahead', 'behind', 'late')))
        if way < 0.3:
            return ('drop', chance.random.choice('abcde'))
        parts = [chance.any_statement(), chance.any_statement(), ('save', 'a'), ('back', 'a')]
        return does(*[chance.random.choice(parts) for _ in range(chance.random.randint(0, 4))])


if __name__ == '__main__':
    unittest.main()
