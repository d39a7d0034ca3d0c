"""[50]: places, as bodies and tables use them, and the ways through them."""

import itertools
import random
import unittest

from firingrules.bodies import body
from firingrules.places import Place, Tour, Turn
from firingrules.ruleset import Rules
from firingrules.schemas import Schema
from firingrules.tables import decide, firings, longest
from tests.support import small

NAMES = 'abcde'


class Told:
    """Turns that are told by dicts: for each index and state what comes of it."""

    def __init__(self, turns):
        self.turns = turns

    def turn(self, at, state):
        """What may come of a turn: it weighs 1 if it fires."""
        fires, goes, stops = self.turns[at][state]
        turn = Turn(fires)
        turn.goes = {behind: (int(fires), (('call', behind),) if fires else ()) for behind in goes}
        turn.stops = {word: (int(fires), ()) for word in stops}
        turn.calls = {(at, state): ()} if fires else {}
        return turn


def rules_of(pairs, many):
    """Competing rules with an order."""
    given = [(NAMES[at], 't', 'insert', (), 'behind', 'row', (), (('refuse',),)) for at in range(many)]
    return Rules(small(), given, pairs)


def all_ways(rules, turns, start):
    """All ways through a place: tuples (state or word, weight, names, turns with their states)."""
    many = len(rules)
    found = []
    for line in itertools.permutations(range(many)):
        if [1 for one, two in itertools.combinations(line, 2) if rules.goes_ahead(NAMES[two], NAMES[one])]:
            continue
        states = [(start, 0, ())]
        for at in line:
            more = []
            for state, weight, had in states:
                fires, goes, stops = turns[at][state]
                now = had + ((at, state),)
                found += [(word, weight + fires, now) for word in stops]
                more += [(behind, weight + fires, now) for behind in goes]
            states = more
        found += states
    return found


class TourTest(unittest.TestCase):
    def test_all_ways(self):
        seen = {}
        for seed in range(600):
            chance = random.Random(seed)
            many, states = chance.randint(0, 5), range(chance.randint(1, 3))
            turns = []
            for _ in range(many):
                kinds = chance.choice([['idle'], ['idle'], ['idle', 'fire'], ['idle', 'go'], ['go', 'fork', 'stop']])
                turns.append({state: self.turn(chance, state, states, chance.choice(kinds)) for state in states})
            line = chance.sample(range(many), many)
            pairs = [(NAMES[one], NAMES[two]) for one, two in itertools.combinations(line, 2) if chance.random() < 0.3]
            rules = rules_of(pairs, many)
            tour = Tour(Place(rules, rules.rules, Told(turns)), {0: 0})
            seen.update(self.check(rules, turns, tour))
        self.assertEqual(set(seen), {'quiet', 'stops', 'several', 'idle'})

    def turn(self, chance, state, states, kind):
        """What comes of a turn of some kind."""
        if kind == 'stop':
            return (True, [], ['stop'])
        if kind == 'fork':
            return (True, sorted(chance.sample(list(states), chance.randint(0, len(states)))), [])
        if kind == 'go':
            return (True, [chance.choice(list(states))], [])
        return (kind == 'fire', [state], [])

    def check(self, rules, turns, tour):
        """Check a tour by all ways."""
        ways = all_ways(rules, turns, 0)
        best = {}
        for behind, weight, _ in ways:
            best[behind] = max(weight, best.get(behind, 0))
        ends, stops = tour.last_states(), tour.all_stops()
        self.assertEqual({**ends, **{word: stops[word][0] for word in stops}}, best)
        had = {}
        for behind, weight, line in ways:
            for at in range(len(line)):
                had.setdefault((line[at][1], line[at][0]), set()).add(line[:at])
        for state, at in self.cut_short(rules, turns):
            had.setdefault((state, at), set())
        self.assertEqual({moment[1:] for moment in tour.moments()}, set(had))
        self.assertEqual({moment[1:] for moment in tour.some_moments()}, set(had))
        for end in ends:
            self.check_way(turns, rules, tour.way_to_end(end), best[end], end)
        for word in stops:
            self.check_way(turns, rules, tour.way_to_stop(stops[word][1], word), best[word], word)
        for moment in tour.moments():
            if turns[moment[2]][moment[1]][0]:
                first, told = tour.way_to_call(moment, (moment[2], moment[1]))
                self.assertEqual(first, 0)
                state, names = self.follow(turns, rules, told)
                self.assertEqual((state, names[-1]), (moment[1], NAMES[moment[2]]))
        seen = {'quiet': len(tour.quiet) > 0, 'stops': len(stops) > 0, 'several': len(ends) > 1, 'idle': len(tour.idle) > 1}
        return {word: True for word in seen if seen[word]}

    def cut_short(self, rules, turns):
        """States and indexes of turns on ways that do not go on, as they have no end."""
        found, todo = set(), [(frozenset(), 0)]
        while todo:
            had, state = todo.pop()
            for at in range(len(rules)):
                if at not in had and not [1 for one in range(len(rules)) if one not in had and rules.goes_ahead(NAMES[one], NAMES[at])]:
                    if (had, state, at) not in found:
                        found.add((had, state, at))
                        todo += [(had | {at}, behind) for behind in turns[at][state][1]]
        return {(state, at) for _, state, at in found}

    def follow(self, turns, rules, told):
        """Follow the names of a way; return the state in which the last one has its turn, and the names."""
        names = [part for part in told if isinstance(part, str)]
        self.assertEqual(len(set(names)), len(names))
        for at, name in enumerate(names):
            for other in rules.names:
                if rules.goes_ahead(other, name):
                    self.assertIn(other, names[:at])
        state, before = 0, 0
        parts = list(told)
        for name in names:
            before = state
            parts.pop(0)
            if parts and isinstance(parts[0], tuple):
                state = parts.pop(0)[1]
                self.assertIn(state, turns[NAMES.index(name)][before][1])
        return before, names

    def check_way(self, turns, rules, way, weight, last):
        """Check that a way leads to an end or stop, with its weight."""
        first, told = way
        self.assertEqual(first, 0)
        if told:
            before, names = self.follow(turns, rules, told)
            self.assertIn(last, sum([list(part) for part in turns[NAMES.index(names[-1])][before][1:]], []))
        state, found = 0, 0
        parts = list(told)
        while parts:
            at = NAMES.index(parts.pop(0))
            found += turns[at][state][0]
            if parts and isinstance(parts[0], tuple):
                state = parts.pop(0)[1]
        self.assertEqual(found, weight)


def made(name, condition, *actions):
    """A rule behind inserts into t."""
    return (name, 't', 'insert', (), 'behind', 'row', condition, actions)


class UsesTest(unittest.TestCase):
    def test_rules_in_order_that_do_the_same(self):
        # Behind the first one nothing changes; the last one has its turn then alone.
        offer = ('offer', 'u', (0,))
        rules = Rules(small(), [made(name, (), offer) for name in 'cab'], [('a', 'b'), ('b', 'c')])
        new, one, other = ('insert', 't', (0, 1)), (((0, 1),), ()), (((0, 1),), ((0,),))
        table = {(offer, one): [other], (offer, other): [other]}
        self.assertEqual(body(rules, new, ((), ()), table), ([other], [(offer, one), (offer, other)], ['a', 'b', 'c']))
        found = decide(rules, [(new, ((), ()))])[1]
        self.assertEqual(firings(rules, found)[0][2], [(other, 3)])
        self.assertEqual(longest(rules, found, 0), (3, ['a', 'b', 'c']))

    def test_a_rule_that_fires_in_some_states_alone_and_leaves_them(self):
        offer = ('offer', 'u', (0,))
        again = made('m', (('some', 'u', (('k', 0),)),), offer)
        new = ('insert', 't', (0, 1))
        for pairs, many in [((), 2), ((('a', 'm'),), 2), ((('m', 'a'),), 1)]:
            for given in ([made('a', (), offer), again], [again, made('a', (), offer)]):
                rules = Rules(small(), given, pairs)
                found = decide(rules, [(new, ((), ()))])[1]
                self.assertEqual(firings(rules, found)[0][2], [((((0, 1),), ((0,),)), many)])
                self.assertEqual(longest(rules, found, 0)[0], many)

    def test_a_rule_that_fires_and_leaves_states_by_a_deep_call(self):
        schema = Schema(2, [('t', ('k',), 1), ('u', ('k',), 1), ('w', ('k',), 1)])
        rules = Rules(schema, [
            ('a', 't', 'insert', (), 'behind', 'row', (), (('offer', 'u', (1,)),)),
            ('b', 't', 'insert', (), 'behind', 'row', (), (('offer', 'w', (0,)), ('delete', 'w', ()))),
            ('c', 'w', 'insert', (), 'behind', 'row', (('some', 'u', ()),), (('delete', 'u', (('k', 0),)),)),
        ])
        start = (('insert', 't', (0,)), ((), (), ()))
        found = decide(rules, [start])[1]
        at = [row[:2] for row in found].index(start)
        self.assertEqual(firings(rules, found)[at][2], [((((0,),), ((1,),), ()), 3)])
        self.assertEqual(longest(rules, found, at), (3, ['a', 'b', 'c']))


if __name__ == '__main__':
    unittest.main()
