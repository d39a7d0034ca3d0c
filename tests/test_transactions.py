"""[83], [11]: transactions."""

import copy
import unittest

from firingrules.ruleset import Rules
from firingrules.runs import run
from firingrules.late import commit
from firingrules.schemas import Schema
from firingrules.transactions import transact
from tests.chance import Chance
from tests.support import made, small, told
from tests.worlds import idle, long_runs

EMPTY = ((), ())
NEW = ('insert', 't', (0, 1))
OTHER = ('insert', 't', (1, 1))
DELETE = ('delete', 't', ())
ONE = (((0, 1),), ())
TWO = (((0, 1), (1, 1)), ())


def rules(*given):
    """Rules of the small schema."""
    return Rules(small(), given)


LOOP = made('loop', 'delete', [DELETE], level='statement')


class WordsTest(unittest.TestCase):
    def test_no_deeds(self):
        self.assertEqual(transact(rules(), ONE, []), (['done'], ONE))
        self.assertEqual(transact(rules(made('a', when='late')), ONE, [], limit=1), (['done'], ONE))

    def test_statements_done_and_refused(self):
        self.assertEqual(transact(rules(), EMPTY, [NEW]), (['done', 'done'], ONE))
        self.assertEqual(transact(rules(), EMPTY, [NEW, NEW, OTHER]), (['done', 'refused', 'done', 'done'], TWO))
        lock = made('lock', condition=(('same', ('new', 'k'), 1),))
        self.assertEqual(transact(rules(lock), EMPTY, [OTHER, NEW, OTHER]), (['refused', 'done', 'refused', 'done'], ONE))

    def test_a_refused_statement_leaves_the_database(self):
        half = made('half', actions=[('offer', 'u', (0,)), ('refuse',)])
        self.assertEqual(transact(rules(half), ((), ((1,),)), [NEW]), (['refused', 'done'], ((), ((1,),))))

    def test_saves_and_ways_back(self):
        save, back = ('save', 'a'), ('back', 'a')
        self.assertEqual(transact(rules(), EMPTY, [save]), (['saved', 'done'], EMPTY))
        self.assertEqual(transact(rules(), EMPTY, [save, NEW, back]), (['saved', 'done', 'back', 'done'], EMPTY))
        self.assertEqual(transact(rules(), EMPTY, [save, NEW, back, OTHER, back, NEW]),
                         (['saved', 'done', 'back', 'done', 'back', 'done', 'done'], ONE))
        self.assertEqual(transact(rules(), EMPTY, [NEW, save, OTHER, back]), (['done', 'saved', 'done', 'back', 'done'], ONE))

    def test_the_latest_save_with_a_name(self):
        a, b, back = ('save', 'a'), ('save', 'b'), ('back', 'a')
        deeds = [a, NEW, a, OTHER, back]
        self.assertEqual(transact(rules(), EMPTY, deeds), (['saved', 'done', 'saved', 'done', 'back', 'done'], ONE))
        # The latest save stays, so a second way back leads to it again.
        self.assertEqual(transact(rules(), EMPTY, deeds + [back])[1], ONE)
        self.assertEqual(transact(rules(), EMPTY, [a, NEW, b, OTHER, ('back', 'b'), back])[1], EMPTY)
        # Behind the way back to the first save with b, the second save with a is gone, but not the first one.
        deeds = [a, NEW, b, a, OTHER, ('back', 'b'), back]
        self.assertEqual(transact(rules(), EMPTY, deeds)[1], EMPTY)

    def test_no_save(self):
        a, b = ('save', 'a'), ('save', 'b')
        self.assertEqual(told(transact, rules(), EMPTY, [('back', 'a')]), ('NoSave', {'name': 'a'}))
        self.assertEqual(told(transact, rules(), EMPTY, [b, ('back', 'a')]), ('NoSave', {'name': 'a'}))
        self.assertEqual(told(transact, rules(), EMPTY, [('back', 'a'), a]), ('NoSave', {'name': 'a'}))
        gone = [a, b, ('back', 'a'), ('back', 'b')]
        self.assertEqual(told(transact, rules(), EMPTY, gone), ('NoSave', {'name': 'b'}))
        self.assertEqual(transact(rules(), EMPTY, gone[:3] + [('back', 'a'), b, ('back', 'b')])[1], EMPTY)

    def test_commits(self):
        check = made('check', when='late', condition=(('no', 'u', (('k', ('new', 'k')),)),))
        both = rules(check)
        self.assertEqual(transact(both, EMPTY, [NEW]), (['done', 'undone'], EMPTY))
        self.assertEqual(transact(both, EMPTY, [NEW, ('offer', 'u', (0,))]), (['done', 'done', 'done'], (((0, 1),), ((0,),))))
        self.assertEqual(transact(both, EMPTY, [NEW, DELETE]), (['done', 'done', 'done'], EMPTY))
        self.assertEqual(transact(both, ONE, [OTHER, NEW]), (['done', 'refused', 'undone'], ONE))
        self.assertEqual(transact(both, ONE, [('offer', 'u', (0,))])[0], ['done', 'done'])
        self.assertEqual(transact(both, EMPTY, [('save', 'a'), NEW, ('back', 'a')]), (['saved', 'done', 'back', 'done'], EMPTY))

    def test_a_commit_that_writes(self):
        copies = made('copies', when='late', actions=[('offer', 'u', (('new', 'k'),))])
        self.assertEqual(transact(rules(copies), ONE, [OTHER]), (['done', 'done'], (TWO[0], ((1,),))))
        self.assertEqual(transact(rules(copies), EMPTY, [NEW, OTHER, ('delete', 't', (('k', 0),))]),
                         (['done', 'done', 'done', 'done'], (((1, 1),), ((1,),))))

    def test_undone_by_a_call_of_the_commit(self):
        again = made('again', when='late', actions=[NEW])
        self.assertEqual(transact(rules(again), EMPTY, [NEW]), (['done', 'undone'], EMPTY))


class ErrorsTest(unittest.TestCase):
    def test_the_first_deed_that_cannot_be_done(self):
        both = rules(LOOP)
        back = ('back', 'a')
        self.assertEqual(told(transact, both, EMPTY, [DELETE]), ('Endless', {}))
        self.assertEqual(told(transact, both, EMPTY, [DELETE, back]), ('Endless', {}))
        self.assertEqual(told(transact, both, EMPTY, [back, DELETE]), ('NoSave', {'name': 'a'}))
        self.assertEqual(told(transact, both, EMPTY, [NEW, NEW, DELETE, back]), ('Endless', {}))
        self.assertEqual(told(transact, both, EMPTY, [NEW, DELETE, back], limit=1), ('TooMany', {'limit': 1}))

    def idle_rules(self, many, **more):
        """Rules that never fire."""
        return [made('abcdefghijkl'[at], condition=(('same', 0, 1),), **more) for at in range(many)]

    def test_limit_for_each_statement(self):
        ten = rules(*self.idle_rules(10))
        self.assertEqual(transact(ten, EMPTY, [NEW, OTHER, DELETE, NEW], limit=10)[0], ['done'] * 5)
        self.assertEqual(told(transact, ten, EMPTY, [NEW, OTHER], limit=9), ('TooMany', {'limit': 9}))
        self.assertEqual(transact(ten, EMPTY, [DELETE], limit=1)[0], ['done'] * 2)

    def test_limit_for_the_commit(self):
        late = rules(*self.idle_rules(5, when='late'))
        self.assertEqual(transact(late, EMPTY, [NEW, OTHER], limit=5)[0], ['done'] * 3)
        self.assertEqual(told(transact, late, EMPTY, [NEW, OTHER], limit=4), ('TooMany', {'limit': 4}))
        self.assertEqual(transact(late, EMPTY, [NEW, DELETE], limit=1)[0], ['done'] * 3)
        mixed = rules(*self.idle_rules(5, when='late'), made('z', condition=(('same', 0, 1),)))
        self.assertEqual(transact(mixed, EMPTY, [NEW, OTHER], limit=5)[0], ['done'] * 3)

    def test_exactly_400_turns(self):
        rules, call = long_runs(8, 2, 8)
        self.assertEqual(transact(rules, call[1], [call[0]]), (['done', 'done'], ((), ())))
        rules, call = long_runs(8, 2, 8, [idle('z', 'b', 'delete')])
        self.assertEqual(told(transact, rules, call[1], [call[0]]), ('TooMany', {'limit': 400}))

    def test_the_limit_of_400(self):
        schema = Schema(4, [('b', ('x', 'y', 'z'), 3)])
        rows = tuple(schema.rows('b'))
        for many, error in [(6, None), (7, 'TooMany')]:
            given = [made('abcdefg'[at], 'delete', condition=(('same', 0, 1),), table='b') for at in range(many)]
            found = told(transact, Rules(schema, given), (rows,), [('delete', 'b', ())])
            self.assertEqual(found, ('returned', (['done', 'done'], ((),))) if error is None else ('TooMany', {'limit': 400}))

    def test_endless_commits(self):
        flip = made('flip', 'update', [('update', 't', (), (('v', ('old', 'v')),))], when='late')
        update = ('update', 't', (), (('v', 0),))
        self.assertEqual(told(transact, rules(flip), ONE, [update]), ('Endless', {}))
        self.assertEqual(told(transact, rules(flip), ONE, [update], limit=1), ('TooMany', {'limit': 1}))
        self.assertEqual(transact(rules(flip), ONE, [update, ('update', 't', (), (('v', 1),))])[0], ['done'] * 3)
        loop = rules(LOOP, made('a', when='late', actions=[DELETE]))
        self.assertEqual(told(transact, loop, EMPTY, [NEW]), ('Endless', {}))
        self.assertEqual(told(transact, loop, EMPTY, [NEW, ('back', 'x')]), ('NoSave', {'name': 'x'}))


class ByRunAndCommitTest(unittest.TestCase):
    def test_as_run_and_commit(self):
        seen = {}
        for seed in range(800):
            chance = Chance(seed, Schema(2, [('t', ('k', 'v'), 1), ('u', ('a',), 1)]))
            chance.focus(chance.random.randint(2, 6))
            given = chance.any_rules(chance.random.randint(1, 4), whens=('late', 'behind', 'ahead'))
            database = chance.database()
            deeds = [chance.random.choice([chance.any_statement(), chance.any_statement(), ('save', 'a'), ('save', 'b'),
                                           ('back', 'a')]) for _ in range(chance.random.randint(0, 7))]
            kept = copy.deepcopy(deeds)
            limit = chance.random.choice([2, 5, 50])
            found = told(transact, given, database, deeds, limit=limit)
            self.assertEqual(found, told(self.by_hand, given, database, deeds, limit))
            self.assertEqual(deeds, kept)
            if found[0] == 'returned':
                again = copy.deepcopy(found[1])
                found[1][0].clear()
                self.assertEqual(transact(given, database, deeds, limit=limit), again)
                seen.update({word: True for word in again[0]})
            seen[found[0]] = True
        self.assertEqual(set(seen), {'returned', 'Endless', 'TooMany', 'NoSave', 'done', 'refused', 'saved', 'back', 'undone'})

    def by_hand(self, given, database, deeds, limit):
        """A transaction whose ways back do all again from the beginning."""
        def now(done):
            found = database
            for deed in done:
                end = run(given, deed, found, limit=limit)
                found = found if end is None else end
            return found
        words, done, saves = [], [], []
        for deed in deeds:
            if deed[0] == 'save':
                saves = saves + [(deed[1], list(done))]
                words.append('saved')
            elif deed[0] == 'back':
                while saves and saves[-1][0] != deed[1]:
                    saves = saves[:-1]
                if not saves:
                    transact(given, database, [deed])
                done = list(saves[-1][1])
                words.append('back')
            else:
                words.append('refused' if run(given, deed, now(done), limit=limit) is None else 'done')
                done.append(deed)
        end = commit(given, database, now(done), limit=limit)
        return (words + ['undone'], database) if end is None else (words + ['done'], end)

    def test_what_a_commit_does_depends_on_two_databases_alone(self):
        """[11]: other statements between, with the same databases at both ends."""
        different = 0
        for seed in range(500):
            chance = Chance(seed, Schema(2, [('t', ('k', 'v'), 1), ('u', ('a',), 1)]))
            given = chance.any_rules(chance.random.randint(1, 4), whens=('late',))
            one, other = chance.database(), chance.database()
            # Late rules do not fire at statements: these lead from one to the other in two ways.
            wipe = [('delete', name, ()) for name in given.schema.names]
            fill = [('insert', name, row) for name, rows in zip(given.schema.names, other) for row in rows]
            ways = [wipe + fill, wipe[::-1] + [('save', 'a')] + fill[::-1] + [('back', 'a')] + fill]
            found = [told(transact, given, one, deeds) for deeds in ways]
            straight = told(commit, given, one, other)
            for way, deeds in zip(found, ways):
                self.assertEqual(way[0], straight[0])
                if way[0] == 'returned':
                    self.assertEqual(way[1][1], one if straight[1] is None else straight[1])
                    self.assertEqual(way[1][0][-1], 'undone' if straight[1] is None else 'done')
                    different += straight[1] not in (other, None)
            same = [told(transact, given, one, wipe + [('insert', name, row) for name, rows in zip(given.schema.names, one) for row in rows])]
            self.assertEqual(same[0][1][1], one)
            self.assertEqual(same[0][1][0][-1], 'done')
        self.assertGreater(different, 50)


if __name__ == '__main__':
    unittest.main()
