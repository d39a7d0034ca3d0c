"""[90], [91]: why rows change, and which rules are needed."""

import copy
import itertools
import unittest

from firingrules.causes import needed, steps, why
from firingrules.errors import Endless, TooMany
from firingrules.ruleset import Rules
from firingrules.runs import trace
from firingrules.schemas import Schema
from firingrules.transactions import transact
from tests import naive
from tests.chance import Chance
from tests.support import made, offer, small, told
from tests.worlds import TOWER, idle, tower

NEW = ('insert', 't', (0, 1))
OTHER = ('insert', 't', (1, 1))
DELETE = ('delete', 't', ())
EMPTY = ((), ())
ONE = (((0, 1),), ())
COPY = made('copy', actions=[('offer', 'u', (('new', 'k'),))])
LATER = COPY[:4] + ('late',) + COPY[5:]
LOOP = made('loop', 'delete', [DELETE], level='statement')


def rules(*given):
    """Rules of the small schema."""
    return Rules(small(), given)


class StepsTest(unittest.TestCase):
    def test_no_statements(self):
        self.assertEqual(steps(rules(COPY, made('late', when='late')), ONE, []), [])

    def test_one_statement_as_trace(self):
        self.assertEqual(steps(rules(COPY), EMPTY, [NEW]), trace(rules(COPY), NEW, EMPTY))

    def test_several_are_numbered_through(self):
        found = steps(rules(COPY), EMPTY, [NEW, OTHER])
        self.assertEqual(found, [
            ('call', None, NEW),
            ('change', 0, 't', None, (0, 1)),
            ('turn', 1, 'copy', None, (0, 1), True),
            ('call', 2, ('offer', 'u', (0,))),
            ('change', 3, 'u', None, (0,)),
            ('call', None, OTHER),
            ('change', 5, 't', None, (1, 1)),
            ('turn', 6, 'copy', None, (1, 1), True),
            ('call', 7, ('offer', 'u', (1,))),
            ('change', 8, 'u', None, (1,)),
        ])

    def test_the_call_alone_of_refused_ones(self):
        half = made('half', condition=(('same', ('new', 'v'), 1),), actions=[offer(0), ('refuse',)])
        plain = ('insert', 't', (1, 0))
        self.assertEqual(steps(rules(half), EMPTY, [NEW]), [('call', None, NEW)])
        self.assertEqual(steps(rules(half), EMPTY, [NEW, plain, NEW, NEW]), [
            ('call', None, NEW),
            ('call', None, plain),
            ('change', 1, 't', None, (1, 0)),
            ('turn', 2, 'half', None, (1, 0), False),
            ('call', None, NEW),
            ('call', None, NEW),
        ])
        self.assertEqual(steps(rules(), ONE, [NEW]), [('call', None, NEW)])

    def test_a_late_rule_has_a_step_for_each_tuple(self):
        late = made('late', when='late', condition=(('same', ('new', 'v'), 1),), actions=[('offer', 'u', (('new', 'k'),))])
        plain = ('insert', 't', (0, 0))
        self.assertEqual(steps(rules(late), EMPTY, [OTHER, plain]), [
            ('call', None, OTHER),
            ('change', 0, 't', None, (1, 1)),
            ('call', None, plain),
            ('change', 2, 't', None, (0, 0)),
            # Ascending by key, also if the rule does not fire.
            ('turn', 3, 'late', None, (0, 0), False),
            ('turn', 1, 'late', None, (1, 1), True),
            ('call', 5, ('offer', 'u', (1,))),
            ('change', 6, 'u', None, (1,)),
        ])

    def test_the_cause_is_the_last_step_that_changes_the_row(self):
        late = made('late', when='late', condition=(('same', 0, 1),))
        update = ('update', 't', (), (('v', 0),))
        found = steps(rules(late), EMPTY, [NEW, update, ('insert', 'u', (0,)), OTHER])
        self.assertEqual(found[-2:], [('turn', 3, 'late', None, (0, 0), False), ('turn', 7, 'late', None, (1, 1), False)])
        found = steps(rules(late), EMPTY, [NEW, DELETE, NEW])
        self.assertEqual(found[-1], ('turn', 5, 'late', None, (0, 1), False))
        self.assertEqual(steps(rules(late), EMPTY, [NEW, DELETE])[-1], ('change', 2, 't', (0, 1), None))

    def test_a_change_is_one_of_the_keys_of_both_rows(self):
        move = ('update', 't', (), (('k', 1),))
        gone = made('gone', 'delete', when='late', condition=(('same', 0, 1),))
        there = made('there', when='late', condition=(('same', 0, 1),))
        self.assertEqual(steps(rules(gone, there), ONE, [move]), [
            ('call', None, move),
            ('change', 0, 't', (0, 1), (1, 1)),
            ('turn', 1, 'gone', (0, 1), None, False),
            ('turn', 1, 'there', None, (1, 1), False),
        ])
        both = made('both', 'update', when='late', condition=(('same', 0, 1),))
        self.assertEqual(steps(rules(both), ONE, [DELETE, ('insert', 't', (0, 0))])[-1],
                         ('turn', 3, 'both', (0, 1), (0, 0), False))

    def test_steps_of_the_turn_itself_may_be_the_cause(self):
        # When the rule looks at (1, 1), what it wrote when it looked at (0, 1) has changed that row.
        wipe = ('update', 't', (('k', 1),), (('v', 0),))
        late = made('late', when='late', condition=(('same', ('new', 'k'), 0),), actions=[wipe])
        self.assertEqual(steps(rules(late), EMPTY, [NEW, OTHER])[4:], [
            ('turn', 1, 'late', None, (0, 1), True),
            ('call', 4, wipe),
            ('change', 5, 't', (1, 1), (1, 0)),
            ('turn', 6, 'late', None, (1, 1), False),
        ])

    def test_level_statement(self):
        late = made('late', when='late', level='statement', actions=[offer(0), offer(1)])
        self.assertEqual(steps(rules(late), EMPTY, [OTHER, NEW]), [
            ('call', None, OTHER),
            ('change', 0, 't', None, (1, 1)),
            ('call', None, NEW),
            ('change', 2, 't', None, (0, 1)),
            # One step, with the cause of (0, 1), which is ahead of (1, 1).
            ('turn', 3, 'late', None, None, True),
            ('call', 4, ('offer', 'u', (0,))),
            ('change', 5, 'u', None, (0,)),
            ('call', 4, ('offer', 'u', (1,))),
            ('change', 7, 'u', None, (1,)),
        ])

    def test_the_first_tuple_for_which_it_waits(self):
        late = made('late', 'delete', when='late', level='statement', condition=(('some', 'u', ()),))
        one = ('delete', 't', (('k', 1),))
        self.assertEqual(steps(rules(late), (((1, 1),), ()), [NEW, one]), [
            ('call', None, NEW),
            ('change', 0, 't', None, (0, 1)),
            ('call', None, one),
            ('change', 2, 't', (1, 1), None),
            ('turn', 3, 'late', None, None, False),
        ])

    def test_calls_within_and_turns_of_several_late_rules(self):
        second = made('second', table='u', when='late', actions=[DELETE])
        third = made('third', 'delete', actions=[offer(1)])
        self.assertEqual(steps(rules(LATER, second, third), EMPTY, [NEW]), [
            ('call', None, NEW),
            ('change', 0, 't', None, (0, 1)),
            ('turn', 1, 'copy', None, (0, 1), True),
            ('call', 2, ('offer', 'u', (0,))),
            ('change', 3, 'u', None, (0,)),
            ('turn', 4, 'second', None, (0,), True),
            ('call', 5, DELETE),
            ('change', 6, 't', (0, 1), None),
            ('turn', 7, 'third', (0, 1), None, True),
            ('call', 8, ('offer', 'u', (1,))),
            ('change', 9, 'u', None, (1,)),
            # Its base is the content ahead of its actions, so it waits again.
            ('turn', 10, 'second', None, (1,), True),
            ('call', 11, DELETE),
        ])

    def test_nothing_of_a_commit_that_is_undone(self):
        refuse = made('no', when='late', condition=(('some', 'u', ()),))
        self.assertEqual(steps(rules(LATER, refuse), EMPTY, [NEW]),
                         [('call', None, NEW), ('change', 0, 't', None, (0, 1))])
        again = made('again', when='late', actions=[NEW])
        self.assertEqual(steps(rules(again), EMPTY, [NEW]), [('call', None, NEW), ('change', 0, 't', None, (0, 1))])

    def test_the_errors_of_transact(self):
        for call in (steps, lambda *given, **more: why(*given, 't', (0,), **more),
                     lambda *given, **more: needed(*given, 't', (0,), **more)):
            self.assertEqual(told(call, rules(LOOP), EMPTY, [NEW, DELETE]), ('Endless', {}))
            late = rules(LOOP, made('late', when='late', actions=[DELETE]))
            self.assertEqual(told(call, late, EMPTY, [NEW]), ('Endless', {}))
            flip = made('flip', 'update', [('update', 't', (), (('v', ('old', 'v')),))], when='late')
            self.assertEqual(told(call, rules(flip), ONE, [('update', 't', (), (('v', 0),))]), ('Endless', {}))
            two = rules(COPY, made('b', condition=(('same', 0, 1),)))
            self.assertEqual(told(call, two, EMPTY, [NEW, OTHER], limit=1), ('TooMany', {'limit': 1}))
            self.assertEqual(told(call, two, EMPTY, [NEW, OTHER], limit=2)[0], 'returned')
            lates = rules(LATER, made('b', when='late', condition=(('same', 0, 1),)))
            self.assertEqual(told(call, lates, EMPTY, [NEW, OTHER], limit=1), ('TooMany', {'limit': 1}))
            self.assertEqual(told(call, lates, EMPTY, [NEW, OTHER], limit=2)[0], 'returned')
            # An error of the first statement goes ahead of one of a later one.
            self.assertEqual(told(call, rules(COPY, LOOP, idle('b', 't', 'insert')), EMPTY, [NEW, DELETE], limit=1),
                             ('TooMany', {'limit': 1}))

    def test_the_limit_left_out(self):
        self.assertEqual(told(steps, tower(), EMPTY, [TOWER[0]]), ('TooMany', {'limit': 400}))
        self.assertEqual(told(why, tower(), EMPTY, [TOWER[0]], 't', (0,)), ('TooMany', {'limit': 400}))
        self.assertEqual(told(needed, tower(), EMPTY, [TOWER[0]], 't', (0,)), ('TooMany', {'limit': 400}))
        found = steps(tower(), EMPTY, [TOWER[0]], limit=4000)
        self.assertEqual(len([step for step in found if step[0] == 'turn']), 4000)
        self.assertEqual(told(steps, tower(), EMPTY, [TOWER[0]], limit=3999), ('TooMany', {'limit': 3999}))
        late = tower(when='late')
        self.assertEqual(len([step for step in steps(late, EMPTY, [TOWER[0]], limit=4000) if step[0] == 'turn']), 4000)
        self.assertEqual(told(steps, late, EMPTY, [TOWER[0]], limit=3999), ('TooMany', {'limit': 3999}))


class WhyTest(unittest.TestCase):
    def test_a_row_that_was_changed_once(self):
        self.assertEqual(why(rules(), EMPTY, [NEW], 't', (0,)), [('change', 0, 't', None, (0, 1)), ('call', None, NEW)])
        self.assertEqual(why(rules(COPY), EMPTY, [OTHER, NEW], 'u', (1,)), [
            ('change', 3, 'u', None, (1,)),
            ('call', 2, ('offer', 'u', (1,))),
            ('turn', 1, 'copy', None, (1, 1), True),
            ('change', 0, 't', None, (1, 1)),
            ('call', None, OTHER),
        ])

    def test_the_last_change(self):
        update = ('update', 't', (), (('v', 0),))
        self.assertEqual(why(rules(), EMPTY, [NEW, update, OTHER], 't', (0,)),
                         [('change', 2, 't', (0, 1), (0, 0)), ('call', None, update)])
        self.assertEqual(why(rules(), ONE, [update, DELETE], 't', (0,)), [('change', 2, 't', (0, 0), None), ('call', None, DELETE)])
        # Also if the row is again what it was.
        self.assertEqual(why(rules(), EMPTY, [NEW, DELETE], 't', (0,)), [('change', 2, 't', (0, 1), None), ('call', None, DELETE)])

    def test_a_key_that_an_update_moves_away_or_brings(self):
        move = ('update', 't', (), (('k', 1),))
        for key in ((0,), (1,)):
            self.assertEqual(why(rules(), ONE, [move], 't', key), [('change', 0, 't', (0, 1), (1, 1)), ('call', None, move)])

    def test_a_key_that_was_not_changed(self):
        for key in ((0,), (1,)):
            self.assertEqual(why(rules(COPY), ONE, [], 't', key), [])
        self.assertEqual(why(rules(COPY), ONE, [OTHER], 't', (0,)), [])
        self.assertEqual(why(rules(COPY), ONE, [OTHER], 'u', (0,)), [])
        self.assertEqual(why(rules(), ONE, [('update', 't', (), (('v', 1),))], 't', (0,)), [])
        # An equal key of another table means nothing.
        self.assertEqual(why(rules(), EMPTY, [('insert', 'u', (0,))], 't', (0,)), [])
        self.assertEqual(why(rules(), EMPTY, [NEW], 'u', (0,)), [])

    def test_refused_statements(self):
        half = made('half', actions=[offer(0), ('refuse',)])
        self.assertEqual(why(rules(half), EMPTY, [NEW], 't', (0,)), [])
        self.assertEqual(why(rules(half), EMPTY, [NEW], 'u', (0,)), [])

    def test_by_a_late_rule(self):
        self.assertEqual(why(rules(LATER), EMPTY, [OTHER, NEW], 'u', (0,)), [
            ('change', 5, 'u', None, (0,)),
            ('call', 4, ('offer', 'u', (0,))),
            ('turn', 3, 'copy', None, (0, 1), True),
            ('change', 2, 't', None, (0, 1)),
            ('call', None, NEW),
        ])
        level = made('late', when='late', level='statement', actions=[offer(1)])
        self.assertEqual(why(rules(level), EMPTY, [NEW], 'u', (1,)), [
            ('change', 3, 'u', None, (1,)),
            ('call', 2, ('offer', 'u', (1,))),
            ('turn', 1, 'late', None, None, True),
            ('change', 0, 't', None, (0, 1)),
            ('call', None, NEW),
        ])

    def test_by_a_rule_of_level_statement(self):
        marks = made('marks', level='statement', actions=[offer(1)])
        self.assertEqual(why(rules(marks), EMPTY, [NEW], 'u', (1,)), [
            ('change', 3, 'u', None, (1,)),
            ('call', 2, ('offer', 'u', (1,))),
            ('turn', 0, 'marks', None, None, True),
            ('call', None, NEW),
        ])

    def test_a_transaction_that_is_undone(self):
        refuse = made('no', when='late')
        self.assertEqual(why(rules(refuse), EMPTY, [NEW], 't', (0,)), [])
        self.assertEqual(why(rules(refuse), EMPTY, [NEW, DELETE], 't', (0,)),
                         [('change', 2, 't', (0, 1), None), ('call', None, DELETE)])

    def test_keys_of_several_columns(self):
        schema = Schema(3, [('t', ('a', 'b', 'c'), 2)])
        new = [('insert', 't', (1, 2, 0)), ('insert', 't', (1, 0, 0))]
        self.assertEqual(why(Rules(schema, []), ((),), new, 't', (1, 2)), [('change', 0, 't', None, (1, 2, 0)), ('call', None, new[0])])
        self.assertEqual(why(Rules(schema, []), ((),), new, 't', (2, 1)), [])
        self.assertEqual(needed(Rules(schema, []), ((),), new, 't', (1, 2)), [])


class NeededTest(unittest.TestCase):
    def test_no_rules(self):
        self.assertEqual(needed(rules(), EMPTY, [NEW], 't', (0,)), [])
        self.assertEqual(needed(rules(made('never', condition=(('same', 0, 1),))), EMPTY, [NEW], 't', (0,)), [])

    def test_one_name(self):
        self.assertEqual(needed(rules(COPY), EMPTY, [NEW], 'u', (0,)), [('copy',)])
        self.assertEqual(needed(rules(COPY), EMPTY, [NEW], 'u', (1,)), [])
        self.assertEqual(needed(rules(COPY), EMPTY, [NEW], 't', (0,)), [])
        self.assertEqual(needed(rules(LATER), EMPTY, [NEW], 'u', (0,)), [('copy',)])

    def test_another_row_or_one_where_there_was_none(self):
        turns = made('turns', actions=[('turn', 'v', 0)], when='ahead')
        self.assertEqual(needed(rules(turns), EMPTY, [NEW], 't', (0,)), [('turns',)])
        refuses = made('no', when='ahead', level='statement')
        self.assertEqual(needed(rules(refuses), EMPTY, [NEW], 't', (0,)), [('no',)])
        undone = made('no', when='late')
        self.assertEqual(needed(rules(undone, COPY), EMPTY, [NEW], 't', (0,)), [('no',)])
        # Without it there would be a row of u, too, by the other one; both of them are needed for that.
        self.assertEqual(needed(rules(undone, COPY), EMPTY, [NEW], 'u', (0,)), [('no',)])
        skips = made('skips', actions=[('skip',)], when='ahead')
        self.assertEqual(needed(rules(skips), EMPTY, [NEW], 't', (0,)), [('skips',)])

    def test_two_and_three_names_of_which_no_part_does_so(self):
        first = made('b', actions=[offer(0)])
        second = made('a', actions=[offer(0)])
        third = made('c', actions=[offer(0)], level='statement')
        fourth = made('d', actions=[offer(0)], level='statement')
        self.assertEqual(needed(rules(first, second), EMPTY, [NEW], 'u', (0,)), [('a', 'b')])
        self.assertEqual(needed(rules(first, second, third), EMPTY, [NEW], 'u', (0,)), [('a', 'b', 'c')])
        self.assertEqual(needed(rules(first, second, third, fourth), EMPTY, [NEW], 'u', (0,)), [])

    def test_tuples_of_several_lengths_ascending(self):
        # a wakes what offers the row; b and c would do so each by itself.
        given = [made('c', table='u', actions=[('offer', 't', (1, 1))]), made('b', table='u', actions=[('offer', 't', (1, 0))]),
                 made('a', actions=[offer(0)], condition=(('same', ('new', 'k'), 0),))]
        found = needed(rules(*given), EMPTY, [NEW], 't', (1,))
        self.assertEqual(found, [('a',), ('c',)])
        given[0] = made('c', table='u', actions=[('offer', 't', (1, 0))])
        self.assertEqual(needed(rules(*given), EMPTY, [NEW], 't', (1,)), [('a',), ('b', 'c')])
        given.append(made('d', when='late', condition=(('no', 't', (('k', 1),)),), actions=[('offer', 't', (1, 0))]))
        self.assertEqual(needed(rules(*given), EMPTY, [NEW], 't', (1,)), [('a', 'd'), ('b', 'c', 'd')])

    def test_longer_tuples_with_a_needed_name_are_left_out(self):
        # Without both the row of t is there again, but without b alone it is not.
        one = made('a', condition=(('no', 'u', ()),))
        two = made('b', actions=[offer(0)])
        order = Rules(small(), [one, two], [('b', 'a')])
        self.assertEqual(needed(order, EMPTY, [NEW], 't', (0,)), [('b',)])
        self.assertEqual(needed(order, EMPTY, [NEW], 'u', (0,)), [('b',)])

    def test_without_them_it_is_endless_or_too_long(self):
        guard = made('guard', 'delete', [offer(0)], level='statement')
        go = made('loop', 'delete', [DELETE], level='statement', condition=(('no', 'u', ()),))
        order = Rules(small(), [go, guard], [('guard', 'loop')])
        self.assertEqual(told(transact, order - 'guard', EMPTY, [DELETE]), ('Endless', {}))
        self.assertEqual(transact(order, EMPTY, [DELETE])[0], ['done', 'done'])
        self.assertEqual(needed(order, EMPTY, [DELETE], 't', (0,)), [('guard',)])
        self.assertEqual(needed(order, EMPTY, [DELETE], 'u', (0,)), [('guard',)])
        # Behind the first one stand ten others, which it stops.
        given = [made('a', when='ahead', actions=[('skip',)])] + [idle('bcdefghijk'[at], 't', 'insert', 'row') for at in range(10)]
        new = [('offer', 't', (0, 1))]
        self.assertEqual(needed(rules(*given), ONE, new, 't', (1,), limit=5), [])
        self.assertEqual(needed(rules(*given), EMPTY, new, 't', (1,), limit=9), [('a',)])
        self.assertEqual(needed(rules(*given), EMPTY, new, 't', (1,), limit=10), [])
        # Without two of the others there are few enough turns again, but a is less than these three.
        self.assertEqual(needed(rules(*given), EMPTY, new, 't', (1,), limit=8), [('a',)])

    def test_the_errors_with_all_rules(self):
        go = rules(LOOP, COPY)
        self.assertEqual(told(needed, go, EMPTY, [DELETE], 't', (0,)), ('Endless', {}))
        self.assertEqual(needed(go, EMPTY, [NEW], 'u', (0,)), [('copy',)])

    def test_a_rule_in_why_need_not_be_needed_and_the_other_way_round(self):
        first, second = made('a', actions=[offer(0)]), made('b', actions=[offer(0)])
        both = rules(first, second)
        self.assertIn('a', [step[2] for step in why(both, EMPTY, [NEW], 'u', (0,))])
        self.assertEqual(needed(both, EMPTY, [NEW], 'u', (0,)), [('a', 'b')])
        stop = made('stop', when='ahead', actions=[('skip',)], condition=(('some', 'u', ()),))
        self.assertEqual(needed(rules(stop), ((), ((0,),)), [NEW], 't', (0,)), [('stop',)])
        self.assertEqual(why(rules(stop), ((), ((0,),)), [NEW], 't', (0,)), [])


class ByTheShortestWayTest(unittest.TestCase):
    def test_by_chance(self):
        seen = {}
        for seed in range(1200):
            chance = Chance(seed, Schema(2, [('t', ('k', 'v'), 1), ('u', ('a', 'x'), 1 + seed % 2)]))
            chance.focus(chance.random.randint(2, 6))
            given = chance.any_rules(chance.random.randint(1, 5), whens=('ahead', 'behind', 'late', 'late'))
            database = chance.database()
            statements = [chance.any_statement() for _ in range(chance.random.randint(0, 4))]
            kept = list(statements)
            limit = chance.random.choice([3, 10, 60])
            line, end = naive.transaction(given, database, statements, limit)
            names = {'Within': 'Endless', 'Again': 'Endless', 'Limit': 'TooMany'}
            found = told(steps, given, database, statements, limit=limit)
            if isinstance(line, str):
                self.assertEqual(found, (names[line], {'limit': limit} if line == 'Limit' else {}))
                seen[line] = True
                continue
            self.assertEqual(found, ('returned', line))
            seen['undone' if end is None else 'done'] = True
            table = chance.random.choice(given.schema.names)
            key = chance.random.choice(given.schema.rows(table))[:given.schema.key_count(table)]
            self.assertEqual(why(given, database, statements, table, key, limit=limit), self.chain(given, line, end, table, key))
            least = needed(given, database, statements, table, key, limit=limit)
            self.assertEqual(least, self.needed_by_hand(given, database, statements, table, key, limit))
            self.assertEqual(statements, kept)
            seen['needed {}'.format(sorted({len(names) for names in least}))] = True
        self.assertTrue({'Within', 'Limit', 'done', 'undone', 'needed []', 'needed [1]', 'needed [2]'} <= set(seen), seen)

    def chain(self, given, line, end, table, key):
        """The steps of why."""
        many = given.schema.key_count(table)
        there = [step for step in line if step[0] == 'change' and step[2] == table
                 and key in [row[:many] for row in step[3:] if row is not None]]
        if end is None or not there:
            return []
        found = [there[-1]]
        while found[-1][1] is not None:
            found.append(line[found[-1][1]])
        return found

    def needed_by_hand(self, given, database, statements, table, key, limit):
        """The tuples of needed, by going through all."""
        def row(names):
            rest = Rules(given.schema, [rule for rule in given.rules if rule[0] not in names],
                         [pair for pair in given.pairs if not set(pair) & set(names)])
            try:
                content = transact(rest, database, statements, limit=limit)[1][given.schema.names.index(table)]
            except (Endless, TooMany):
                return 'error'
            return [one for one in content if one[:len(key)] == key]
        names = sorted(given.names)
        tuples = [part for many in (1, 2, 3) for part in itertools.combinations(names, many)]
        other = [part for part in tuples if row(part) != row(())]
        return sorted([part for part in other if not [less for less in other if set(less) < set(part)]])


class AskedTwiceTest(unittest.TestCase):
    def test_it(self):
        given, statements = rules(COPY, made('late', when='late', actions=[offer(1)])), [NEW, OTHER]
        for call in (lambda: steps(given, EMPTY, statements), lambda: why(given, EMPTY, statements, 'u', (1,)),
                     lambda: needed(given, EMPTY, statements, 'u', (0,))):
            first = call()
            again = copy.deepcopy(first)
            self.assertNotEqual(again, [])
            first.clear()
            self.assertEqual(call(), again)
        self.assertEqual(statements, [NEW, OTHER])
        self.assertEqual(given, rules(COPY, made('late', when='late', actions=[offer(1)])))


if __name__ == '__main__':
    unittest.main()
