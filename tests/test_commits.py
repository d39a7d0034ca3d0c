"""[82]: what all runs of commits come to."""

import copy
import unittest

from firingrules.late import commit_step, decide_commits, is_commits, play_commit, waiting
from firingrules.ruleset import Rules
from firingrules.schemas import Schema
from firingrules.tables import decide, is_table
from tests import naive, support
from tests.chance import Chance
from tests.naive import NaiveCommit, commit_outcome
from tests.spread import Spread
from tests.support import any_values, ascending, offer, small, told, true_for_one

EMPTY = ((), ())
ONE = (((0, 0),), ())
TWO = (((0, 0), (1, 0)), ())


def made(name, event='insert', *given, when='late', **more):
    """A rule that is late, if nothing else is said."""
    return support.made(name, event, *given, when=when, **more)


def late(*rules):
    """Rules of the small schema."""
    return Rules(small(), rules)


def marks(name, value):
    """A rule behind inserts into u that leaves its mark in t."""
    return made(name, when='behind', table='u', level='statement', actions=[('update', 't', (), (('v', value),))])


def parting():
    """A late rule whose calls have two ends."""
    return late(made('a', actions=[offer(0)]), marks('b', 0), marks('c', 1))


def flips():
    """A rule that changes the value of a row back and forth."""
    return late(made('a', 'update', [('update', 't', (), (('v', ('old', 'v')),))]))


def rank(database):
    """What databases are ordered by."""
    return (sum([len(content) for content in database]), database)


def first_state(rules, beginning, now):
    """The first state of a commit."""
    return (now, tuple([beginning[rules.schema.names.index(rule[1])] for rule in rules.rules if rule[4] == 'late']))


class StateSpread:
    """All states and calls to which commits lead, also by runs that never end."""

    def __init__(self, rules, begun):
        self.begun = [first_state(rules, *pair) for pair in begun]
        self.calls = Spread(rules, [])
        self.behind = {}
        todo = list(self.begun)
        while todo:
            state = todo.pop()
            if state not in self.behind:
                states, calls, _ = commit_step(rules, state, self.calls.ends)
                while not set(calls) <= set(self.calls.ends):
                    self.calls = Spread(rules, sorted(set(calls) | set(self.calls.ends)))
                    states, calls, _ = commit_step(rules, state, self.calls.ends)
                self.behind[state] = (states, calls)
                todo += [one for one in states if one is not None]

    def is_endless(self):
        """Whether some run never ends."""
        if [call for call in self.calls.ends if self.calls.is_endless(call)]:
            return True
        left = set(self.behind)
        while True:
            away = {one for one in left if not set(self.behind[one][0]) & left}
            if not away:
                return bool(left)
            left -= away

    def rows(self, rules):
        """The tuples of all states, if all runs end."""
        found = {}
        while len(found) < len(self.behind):
            for state, (states, _) in self.behind.items():
                states = [one for one in states if one is not None]
                if all([one in found for one in states]):
                    ends = {end for one in states for end in found[one][0]}
                    if None in self.behind[state][0]:
                        ends.add(None)
                    if not waiting(rules, state):
                        ends = {state[0]}
                    found[state] = (ascending(ends), max([found[one][1] + 1 for one in states], default=0))
        return [(*state, *found[state]) for state in sorted(found)]


def decided(rules, begun):
    """What decide_commits tells, without turns, and the numbers of calls and states that are due."""
    line = sorted(begun, key=lambda pair: (rank(pair[0]), rank(pair[1])))
    for at, pair in enumerate(line):
        spread = StateSpread(rules, line[:at + 1])
        if spread.is_endless():
            return ('endless', *pair), (len(spread.calls.ends), len(spread.behind))
    spread = StateSpread(rules, line)
    calls = sorted({call for _, called in spread.behind.values() for call in called})
    return ('ends', decide(rules, calls, most=4000)[1], spread.rows(rules)), (len(spread.calls.ends), len(spread.behind))


class DecideTest(unittest.TestCase):
    def test_no_commits(self):
        self.assertEqual(decide_commits(late(made('a')), []), ('ends', [], []))

    def test_nothing_comes_of_it(self):
        self.assertEqual(decide_commits(late(), [(ONE, TWO)]), ('ends', [], [(TWO, (), [TWO], 0)]))
        rules = late(made('a'), made('b', 'delete'))
        self.assertEqual(decide_commits(rules, [(ONE, ONE)]), ('ends', [], [(ONE, (ONE[0], ONE[0]), [ONE], 0)]))

    def test_states_ends_and_heights(self):
        rules = late(made('a', actions=[offer(0)]), made('b', table='u', condition=(('some', 't', (('k', 1),)),)))
        behind = (((0, 0),), ((0,),))
        call = (offer(0), ONE)
        self.assertEqual(decide_commits(rules, [(EMPTY, ONE)]), ('ends', [(*call, [behind], 0)], [
            (ONE, ((), ()), [behind], 2),
            (behind, (((0, 0),), ()), [behind], 1),
            (behind, (((0, 0),), ((0,),)), [behind], 0),
        ]))

    def test_refusals(self):
        rules = late(made('a', condition=(('same', ('new', 'k'), 1),)))
        found = decide_commits(rules, [(EMPTY, TWO), (EMPTY, ONE)])
        self.assertEqual(found, ('ends', [], [(ONE, ((),), [ONE], 1), (ONE, (((0, 0),),), [ONE], 0), (TWO, ((),), [None], 0)]))

    def test_two_ends(self):
        found = decide_commits(parting(), [(EMPTY, ONE)])
        self.assertEqual(found[0], 'ends')
        first = [row for row in found[2] if row[:2] == (ONE, ((),))]
        self.assertEqual(first[0][2:], ([(((0, 0),), ((0,),)), (((0, 1),), ((0,),))], 1))
        self.assertEqual(found[1], decide(parting(), [(offer(0), ONE)])[1])

    def test_several_in_any_order(self):
        rules = parting()
        begun = [(EMPTY, TWO), (EMPTY, ONE), (ONE, TWO), (TWO, TWO), (TWO, EMPTY)]
        found = decide_commits(rules, begun)
        self.assertEqual(found, decide_commits(rules, begun[::-1]))
        self.assertEqual(found, decided(rules, begun)[0])
        self.assertEqual(found, decide_commits(rules, begun + begun))
        self.assertEqual(found[2], sorted(found[2], key=lambda row: row[:2]))

    def test_equal_beginnings_that_meet(self):
        rules = late(made('a', 'delete', [('delete', 'u', ())]))
        first = decide_commits(rules, [(ONE, EMPTY)])[2]
        both = decide_commits(rules, [(ONE, EMPTY), (EMPTY, EMPTY)])[2]
        self.assertEqual(both, sorted(first, key=lambda row: row[:2]))

    def check_endless(self, rules, begun, first):
        found = decide_commits(rules, begun)
        self.assertEqual(found[:3], ('endless', *first))
        self.assertEqual(play_commit(rules, *found[1:]), ('endless',))

    def test_endless_by_states(self):
        one, other = (((0, 0),), ()), (((0, 1),), ())
        self.check_endless(flips(), [(one, other)], (one, other))
        self.check_endless(flips(), [(other, one), (one, one), (one, other)], (one, other))
        self.check_endless(flips(), [(one, other), (EMPTY, EMPTY), (other, one)], (one, other))

    def test_the_first_tuple_by_the_order_of_databases(self):
        # A database with fewer rows comes first, whatever Python makes of the tuples.
        few, many = (((1, 0),), ()), (((0, 0), (1, 0)), ())
        changed, other = (((1, 1),), ()), (((0, 1), (1, 0)), ())
        self.assertLess(many, few)
        self.check_endless(flips(), [(many, other), (few, changed)], (few, changed))
        begins = (((1, 0),), ((0,),))
        ends_few, ends_many = (((1, 1),), ()), (((0, 0), (1, 1)), ())
        self.assertLess(ends_many, ends_few)
        self.check_endless(flips(), [(begins, ends_many), (begins, ends_few)], (begins, ends_few))

    def test_endless_by_calls(self):
        loop = made('l', 'delete', [('delete', 'u', ())], table='u', when='behind', level='statement', condition=(('no', 't', ()),))
        rules = late(made('a', 'delete', [('delete', 'u', ())]), loop)
        self.check_endless(rules, [(ONE, EMPTY), (TWO, ONE)], (ONE, EMPTY))
        self.assertEqual(decide_commits(rules, [(TWO, ONE)])[0], 'ends')

    def test_endless_in_some_runs_alone_and_behind_calls_that_are_over(self):
        # Only if c has its turn last in the offer, the late rule flips the value back.
        rules = late(made('a', 'update', [offer(0), ('delete', 'u', ())]), marks('b', 0), marks('c', 1))
        one, other = (((0, 0),), ()), (((0, 1),), ())
        found = decide_commits(rules, [(one, other)])
        self.assertEqual(found[0], 'endless')
        self.assertEqual(play_commit(rules, *found[1:]), ('endless',))

    def test_by_chance(self):
        seen = {}
        for seed in range(700):
            chance = Chance(seed, Schema(2, [('t', ('k', 'v'), 1), ('u', ('a',), 1)]))
            chance.focus(chance.random.randint(1, 3))
            rules = chance.any_rules(chance.random.randint(2, 4), 0.1, whens=('late', 'late', 'behind'))
            begun = [(chance.database(), chance.database()) for _ in range(chance.random.randint(1, 3))]
            found, (calls, states) = decided(rules, begun)
            due = max(calls, states)
            whole = decide_commits(rules, begun, most=4000)
            self.assertEqual(whole[:3], found)
            if whole[0] == 'endless':
                self.assertEqual(play_commit(rules, *whole[1:]), ('endless',))
            else:
                self.assertIs(is_commits(rules, begun, whole[1], whole[2]), True)
                ends = {row[:2]: row[2] for row in whole[1]}
                begin = sorted({call for row in whole[2] for call in commit_step(rules, row[:2], ends)[1]})
                self.assertIs(is_table(rules, begin, whole[1]), True)
            self.assertEqual(decide_commits(rules, begun, most=due), whole)
            if due > 1:
                self.assertEqual(told(decide_commits, rules, begun, most=due - 1), ('TooMany', {'limit': due - 1}))
            seen[found[0], calls > states, min(due, 4)] = True
        self.assertTrue({('ends', True, 4), ('ends', False, 4), ('endless', True, 4), ('endless', False, 3)} <= set(seen), seen)

    def test_by_trying_all_choices(self):
        seen = {}
        for seed in range(500):
            chance = Chance(seed, Schema(2, [('t', ('k', 'v'), 1), ('u', ('a',), 1)]))
            chance.part(chance.random.randint(1, 3))
            rules = chance.any_rules(chance.random.randint(2, 5), 0.1, whens=('late', 'late', 'behind'))
            beginning, now = chance.database(), chance.database()
            runs = naive.all_runs(rules, beginning, now, most=100, begin=commit_outcome, kind=NaiveCommit)
            if runs is None or [out for out, _ in runs if out[0] != 'end']:
                continue
            _, table, rows = decide_commits(rules, [(beginning, now)])
            self.assertEqual([row[:2] for row in rows], sorted({state for _, one in runs for state in one.been}))
            self.assertEqual([row[:2] for row in table], sorted({call for _, one in runs for call in one.calls}))
            first = [row for row in rows if row[:2] == first_state(rules, beginning, now)][0]
            self.assertEqual(first[2], ascending({out[1] for out, _ in runs}))
            self.assertEqual(first[3], max([len(one.been) - 1 for _, one in runs]))
            seen[len(first[2]), min(first[3], 3)] = True
        self.assertTrue({(1, 0), (1, 1), (1, 2), (1, 3)} <= set(seen), seen)


class MostTest(unittest.TestCase):
    def check(self, rules, begun, calls, states):
        self.assertEqual(decided(rules, begun)[1], (calls, states))
        due = max(calls, states)
        whole = decide_commits(rules, begun)
        self.assertEqual(decide_commits(rules, begun, most=due), whole)
        for most in range(1, due):
            self.assertEqual(told(decide_commits, rules, begun, most=most), ('TooMany', {'limit': most}))

    def test_states(self):
        rules = late(made('a', actions=[offer(0)]), made('b', table='u', condition=(('some', 't', (('k', 1),)),)))
        self.check(rules, [(EMPTY, ONE)], 1, 3)
        self.check(rules, [(EMPTY, ONE), (ONE, ONE)], 1, 4)
        self.check(rules, [(ONE, ONE)], 0, 1)
        self.check(flips(), [((((0, 0),), ()), (((0, 1),), ()))], 2, 2)

    def test_calls(self):
        rules = late(made('a', actions=[offer(0), offer(1), ('delete', 'u', ()), ('delete', 't', ())], level='statement')[:7]
                     + ((offer(0), offer(1), ('delete', 'u', ())),),
                     made('b', table='u', when='behind', actions=[('delete', 'u', (('k', 0),))]))
        _, (calls, states) = decided(rules, [(EMPTY, ONE)])
        self.assertGreater(calls, states)
        self.check(rules, [(EMPTY, ONE)], calls, states)

    def test_calls_and_states_of_endless_commits(self):
        # Behind the call that begins within itself another end leads on to more states.
        go = made('go', 'delete', [('delete', 'u', ())], table='u', when='behind', level='statement', condition=(('no', 'u', ()),))
        stop = made('stop', 'delete', [offer(0)], table='u', when='behind', level='statement')
        rules = late(made('a', actions=[('delete', 'u', ()), ('delete', 't', ())]), made('b', table='u'), go, stop)
        calls, states = decided(rules, [(EMPTY, ONE)])[1]
        self.assertGreater(calls, 2)
        self.assertEqual(decide_commits(rules, [(EMPTY, ONE)])[0], 'endless')
        self.check(rules, [(EMPTY, ONE)], calls, states)

    def test_more_states_than_calls_of_endless_commits(self):
        go = made('go', 'delete', [('delete', 'u', ())], table='u', when='behind', level='statement', condition=(('no', 'u', ()),))
        stop = made('stop', 'delete', [offer(0)], table='u', when='behind', level='statement')
        still = [made(name, condition=(('same', 0, 1),)) for name in 'bcdef']
        rules = late(made('a', actions=[('delete', 'u', ())]), go, stop, *still)
        calls, states = decided(rules, [(EMPTY, ONE)])[1]
        self.assertEqual((calls, states), (3, 7))
        self.assertEqual(decide_commits(rules, [(EMPTY, ONE)])[0], 'endless')
        self.check(rules, [(EMPTY, ONE)], calls, states)

    def test_the_default(self):
        schema = Schema(4, [('t', ('k', 'v', 'x'), 3)])
        many = schema.rows('t')
        rules = Rules(schema, [])
        begun = [((), (tuple(sorted([one, other])),)) for one in many for other in many if one < other]
        begun = [(((),), now) for _, now in begun]
        self.assertGreater(len(begun), 1000)
        self.assertEqual(told(decide_commits, rules, begun), ('TooMany', {'limit': 1000}))
        self.assertEqual(told(decide_commits, rules, begun[:1001]), ('TooMany', {'limit': 1000}))
        self.assertEqual(len(decide_commits(rules, begun[:1000])[2]), 1000)


class IsCommitsTest(unittest.TestCase):
    def setUp(self):
        self.rules = Rules(small(), list(parting().rules) + [made('d', 'update', columns=('v',), condition=(('some', 'u', (('k', 1),)),)),
                                                             made('e', 'delete')])
        self.begun = [(EMPTY, ONE), (ONE, TWO), (ONE, ONE), (TWO, ONE)]
        _, self.table, self.rows = decide_commits(self.rules, self.begun)

    def check(self, thing, wanted=False):
        self.assertIs(is_commits(self.rules, self.begun, self.table, thing), wanted)

    def put(self, at, index, part):
        """The rows with another part in one of them."""
        row = self.rows[at]
        return self.rows[:at] + [row[:index] + (part,) + row[index + 1:]] + self.rows[at + 1:]

    def test_right_ones(self):
        self.assertEqual({len(row[2]) for row in self.rows}, {1, 2})
        self.assertIn([None], [row[2] for row in self.rows])
        self.check(self.rows, True)
        self.check([row[:3] + (row[3] + 5,) for row in self.rows], True)
        self.check([row[:3] + (row[3] * 10 ** 20,) for row in self.rows], True)
        more = decide_commits(self.rules, self.begun + [(EMPTY, EMPTY)])[2]
        self.assertEqual(len(more), len(self.rows) + 1)
        self.check(more, True)
        self.assertIs(is_commits(self.rules, [], [], []), True)
        self.check([], False)

    def test_rows_left_out_doubled_and_exchanged(self):
        for at, row in enumerate(self.rows):
            self.check(self.rows[:at] + self.rows[at + 1:])
            self.check(self.rows[:at + 1] + self.rows[at:])
            self.check(self.rows[:at] + [row[:3] + (row[3] + 9,)] + self.rows[at:])
            for other in range(at):
                swapped = list(self.rows)
                swapped[at], swapped[other] = swapped[other], swapped[at]
                self.check(swapped)
            self.check(self.rows[:at] + [list(row)] + self.rows[at + 1:])
            self.check(self.rows[:at] + [row[:3]] + self.rows[at + 1:])
            self.check(self.rows[:at] + [row + (0,)] + self.rows[at + 1:])
        self.check(tuple(self.rows))

    def test_ends(self):
        for at, row in enumerate(self.rows):
            ends = row[2]
            self.check(self.put(at, 2, list(ends)), True)
            for other in (ends[1:], ends + ends[-1:], tuple(ends), [None] + ends, ends + [EMPTY], [[end] for end in ends], None):
                self.check(self.put(at, 2, other))
            if len(ends) > 1:
                self.check(self.put(at, 2, ends[::-1]))

    def test_heights(self):
        self.assertEqual(max([row[3] for row in self.rows]), 2)
        for at, row in enumerate(self.rows):
            for other in (row[3] - 1, -1, True, False, None, '0', (row[3],)):
                self.check(self.put(at, 3, other))
            above = [one[3] for one in self.rows
                     if row[:2] in commit_step(self.rules, one[:2], {line[:2]: line[2] for line in self.table})[0]]
            for height in (row[3] + 1, 9):
                self.check(self.put(at, 3, height), all([height < one for one in above]))

    def test_states(self):
        for at, (now, bases, _, _) in enumerate(self.rows):
            for other in (list(now), now[:1], now + ((),), (((0, False),), ()), (((1, 0), (0, 0)), ()), None):
                self.check(self.put(at, 0, other))
            for other in (list(bases), bases[:1], bases + ((),), tuple([list(base) for base in bases]), None,
                          bases[:1] + (((1, 1), (1, 0)),) + bases[2:], bases[:1] + (((0,),),) + bases[2:]):
                self.check(self.put(at, 1, other))

    def test_true_for_one(self):
        for at, row in enumerate(self.rows):
            for index in range(4):
                other = true_for_one(row[index])
                self.check(self.put(at, index, other), repr(other) == repr(row[index]))

    def test_another_first_tuple(self):
        self.assertIs(is_commits(self.rules, self.begun + [(EMPTY, EMPTY)], self.table, self.rows), False)
        self.assertIs(is_commits(self.rules, self.begun[1:], self.table, self.rows), True)

    def test_a_call_that_is_not_in_the_table(self):
        self.assertIs(is_commits(self.rules, self.begun, [], self.rows), False)
        first = first_state(self.rules, EMPTY, ONE)
        self.assertIs(is_commits(self.rules, [(EMPTY, ONE)], [], [(*first, [], 0)]), True)
        self.assertIs(is_commits(self.rules, [(EMPTY, ONE)], [], [(*first, [None], 0)]), False)
        self.assertIs(is_commits(self.rules, [(EMPTY, ONE)], [], [(*first, [ONE], 0)]), False)

    def test_the_table_is_believed(self):
        rules = late(made('a', actions=[offer(0)]))
        call, wrong = (offer(0), ONE), (((0, 0),), ((1,),))
        rows = [(ONE, ((),), [wrong], 1), (wrong, (ONE[0],), [wrong], 0)]
        self.assertIs(is_commits(rules, [(EMPTY, ONE)], [(*call, [wrong], 0)], rows), True)
        self.assertIs(is_commits(rules, [(EMPTY, ONE)], decide(rules, [call])[1], rows), False)

    def test_states_that_come_again_have_no_rows(self):
        one, other = (((0, 0),), ()), (((0, 1),), ())
        rules = flips()
        states = [(one, (other[0],)), (other, (one[0],))]
        calls = decide(rules, [(('update', 't', (), (('v', value),)), now) for value, now in ((1, one), (0, other))])[1]
        for ends in ([], [None], [one], [one, other]):
            self.assertIs(is_commits(rules, [(one, other)], calls, [(*state, ends, at) for at, state in enumerate(states)]), False)

    def test_any_value(self):
        for thing in any_values():
            self.check(thing)
            self.check([thing])
            self.check(self.rows + [thing])
            self.check([thing] + self.rows)

    def test_nothing_is_changed_and_answers_are_new(self):
        kept = copy.deepcopy((self.begun, self.table, self.rows))
        is_commits(self.rules, self.begun, self.table, self.rows)
        self.assertEqual((self.begun, self.table, self.rows), kept)
        first = decide_commits(self.rules, self.begun)
        again = copy.deepcopy(first)
        for row in first[1] + first[2]:
            row[2].clear()
        first[1].clear()
        first[2].clear()
        self.assertEqual(decide_commits(self.rules, self.begun), again)
        begun = list(self.begun)
        decide_commits(self.rules, begun)
        self.assertEqual(begun, kept[0])


if __name__ == '__main__':
    unittest.main()
