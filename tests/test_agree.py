"""[84], [85]: whether two sets of rules tell the same, in transactions and in calls."""

import copy
import unittest

from firingrules.agree import agree, alike, is_agreement
from firingrules.errors import Endless, TooMany
from firingrules.late import commit
from firingrules.ruleset import Rules
from firingrules.runs import run
from firingrules.schemas import Schema
from firingrules.statements import single
from firingrules.tables import decide, is_table, starts
from firingrules.transactions import transact
from tests.chance import Chance
from tests.spread import start_order
from tests.support import any_values, made, nearly, offer, small, told, true_for_one
from tests.worlds import TOWER, idle, tower

NEW = ('insert', 't', (0, 1))
OTHER = ('insert', 't', (1, 1))
DELETE = ('delete', 't', ())
EMPTY = ((), ())
COPY = made('copy', actions=[('offer', 'u', (('new', 'k'),))], condition=(('same', ('new', 'v'), 1),))
LATER = COPY[:4] + ('late',) + COPY[5:]
LOOP = made('loop', 'delete', [DELETE], level='statement')
FLIP = made('flip', 'update', [('update', 't', (), (('v', ('old', 'v')),))], when='late')


def rules(*given):
    """Rules of the small schema."""
    return Rules(small(), given)


def order(database):
    """What databases are ordered by."""
    return start_order((None, database))


class Ahead(Exception):
    """What is raised at a list."""


def one_more(one, other, triple, statement):
    """The triple behind a statement, or None if it parts the sides; may raise the errors of agree."""
    ends = [run(side, statement, now, limit=4000) for side, now in ((one, triple[1]), (other, triple[2]))]
    if [end is None for end in ends] in ([True, False], [False, True]):
        return None
    if ends == [None, None]:
        return triple
    if commit(one, triple[0], ends[0], limit=4000) != commit(other, triple[0], ends[1], limit=4000):
        return None
    return (triple[0], *ends)


def by_lists(one, other, statements, most, longest=2000):
    """What agree tells, by going through all lists; None if they are too many."""
    found = set()
    for database in sorted(one.schema.databases(), key=order):
        layer, many = [((), (database, database, database))], -1
        while many < len(found) and layer:
            many, more = len(found), []
            for line, triple in layer:
                found.add(triple)
                if len(found) > most:
                    return ('TooMany', {'limit': most})
            for line, triple in layer:
                for statement in sorted(statements):
                    try:
                        behind = one_more(one, other, triple, statement)
                    except Endless:
                        return ('Endless', {})
                    except TooMany:
                        return ('TooMany', {'limit': 4000})
                    if behind is None:
                        return ('returned', ('parted', database, [*line, statement]))
                    more.append(((*line, statement), behind))
                    if len({triple for _, triple in more} | found) > most:
                        return ('TooMany', {'limit': most})
            layer = more
            if len(layer) > longest:
                return None
    return ('returned', ('agree', sorted(found)))


class AgreeTest(unittest.TestCase):
    def test_no_statements(self):
        triples = [(one, one, one) for one in small().databases()]
        self.assertEqual(agree(rules(), rules(LOOP, FLIP), []), ('agree', sorted(triples)))

    def test_triples_ascending_each_once(self):
        found = agree(rules(), rules(), [NEW, DELETE])
        self.assertEqual(found[0], 'agree')
        databases = small().databases()
        wanted = {(one, one, one) for one in databases}
        for one in databases:
            wanted |= {(one, two, two) for two in [((), one[1]), (((0, 1),), one[1])]}
            if not [row for row in one[0] if row[0] == 0]:
                with_new = (tuple(sorted([*one[0], (0, 1)])), one[1])
                wanted.add((one, with_new, with_new))
        self.assertEqual(found[1], sorted(wanted))
        self.assertIs(is_agreement(rules(), rules(), [NEW, DELETE], found[1]), True)

    def test_sides_whose_databases_differ_on_the_way(self):
        found = agree(rules(COPY), rules(LATER), [NEW])
        self.assertEqual(found[0], 'agree')
        self.assertIn((EMPTY, (((0, 1),), ((0,),)), (((0, 1),), ())), found[1])
        self.assertNotIn((EMPTY, (((0, 1),), ()), (((0, 1),), ((0,),))), found[1])
        self.assertEqual(agree(rules(LATER), rules(COPY), [NEW])[1], sorted([(a, c, b) for a, b, c in found[1]]))

    def test_parted_at_once(self):
        self.assertEqual(agree(rules(COPY), rules(), [NEW]), ('parted', EMPTY, [NEW]))
        self.assertEqual(agree(rules(), rules(made('no', table='u')), None), ('parted', EMPTY, [('insert', 'u', (0,))]))

    def test_by_the_word_of_a_statement_alone(self):
        # An insert whose key is there is refused, an offer is done; both leave all as it is.
        again = made('again', 'delete', [NEW, NEW])
        once = made('again', 'delete', [NEW, ('offer', 't', (0, 1))])
        back = made('back', 'delete', [('delete', 't', ())], level='statement', when='late')
        wipes = made('wipes', actions=[DELETE], when='late')
        self.assertEqual(agree(rules(again), rules(once), [DELETE]), ('parted', (((0, 0),), ()), [DELETE]))
        one, other = rules(wipes), rules(wipes, made('no', condition=(('same', ('new', 'v'), 1),)))
        self.assertEqual(agree(one, other, [NEW]), ('parted', EMPTY, [NEW]))
        self.assertEqual([transact(side, EMPTY, [NEW])[0] for side in (one, other)], [['done', 'done'], ['refused', 'done']])
        self.assertEqual([transact(side, EMPTY, [NEW])[1] for side in (one, other)], [EMPTY, EMPTY])
        self.assertEqual(agree(rules(back), rules(), [NEW])[0], 'agree')

    def test_by_their_commits_alone(self):
        refuse = made('no', when='late')
        wipe = made('no', when='late', actions=[DELETE])
        self.assertEqual(agree(rules(refuse), rules(), [NEW]), ('parted', EMPTY, [NEW]))
        # Undone is another word than done, even if the database is the same.
        self.assertEqual(agree(rules(refuse), rules(wipe), [NEW]), ('parted', EMPTY, [NEW]))
        self.assertEqual(agree(rules(refuse), rules(refuse[:4] + ('late', 'statement') + refuse[6:]), [NEW, DELETE])[0], 'agree')
        self.assertEqual(agree(rules(COPY), rules(LATER), [NEW, DELETE]), ('parted', EMPTY, [NEW, DELETE]))

    def test_the_first_database_and_of_the_shortest_lists_the_least(self):
        one = rules(made('a', 'delete', [offer(1)], condition=(('same', ('old', 'v'), 1),)))
        some = [OTHER, NEW, DELETE]
        self.assertEqual(agree(one, rules(), some), ('parted', EMPTY, [NEW, DELETE]))
        self.assertEqual(agree(one, rules(), [OTHER, DELETE]), ('parted', EMPTY, [OTHER, DELETE]))
        # Here the empty database and those with one row in u alone part nothing.
        self.assertEqual(agree(one, rules(), [DELETE]), ('parted', (((0, 1),), ()), [DELETE]))
        more = ('delete', 't', (('k', 1),))
        self.assertEqual(agree(one, rules(), [more, DELETE]), ('parted', (((0, 1),), ()), [DELETE]))
        self.assertEqual(agree(one, rules(), [more]), ('parted', (((1, 1),), ()), [more]))

    def test_the_statements_of_a_longer_list_in_their_order(self):
        new, last = ('insert', 'u', (0,)), ('delete', 't', (('k', 0),))
        one = rules(made('a', 'delete', [('delete', 'u', ())], condition=(('some', 'u', ()),)))
        for some in ([NEW, new, last], [last, new, NEW]):
            self.assertEqual(agree(one, rules(), some), ('parted', EMPTY, [NEW, new, last]))
        twice = rules(made('a', 'delete', [offer(1)], condition=(('some', 'u', ()), ('some', 't', ()))))
        self.assertEqual(agree(twice, rules(), [OTHER, new, last, NEW]), ('parted', EMPTY, [NEW, OTHER, new, last]))

    def test_statements_in_any_order_and_left_out(self):
        one = rules(made('a', 'delete', [offer(1)], condition=(('same', ('old', 'v'), 1),)))
        some = [OTHER, DELETE, NEW, ('insert', 'u', (0,)), ('update', 't', (), (('v', 1),))]
        for line in (some, some[::-1], sorted(some)):
            self.assertEqual(agree(one, rules(), line), ('parted', EMPTY, [NEW, DELETE]))
        line = [('insert', 't', (0, 1)), ('delete', 't', (('k', 0),))]
        self.assertEqual(agree(one, rules()), ('parted', EMPTY, line))
        self.assertEqual(agree(one, rules(), single(small())), ('parted', EMPTY, line))
        self.assertEqual(agree(one, rules(), statements=single(small())[::-1]), ('parted', EMPTY, line))
        keys = Schema(2, [('t', ('k',), 1)])
        self.assertEqual(agree(Rules(keys, []), Rules(keys, [])), agree(Rules(keys, []), Rules(keys, []), single(keys)))
        self.assertEqual(len(agree(Rules(keys, []), Rules(keys, []))[1]), 16)

    def step_rules(self):
        """Rules by which each update of t counts one up, in three digits, and the statement that does so."""
        digits = ['v', 'x', 'k']
        schema = Schema(4, [('t', ('k', 'x', 'v'), 1)])
        given = []
        for at, column in enumerate(digits):
            full = tuple([('same', ('old', lower), 3) for lower in digits[:at]])
            for value in range(4):
                if (column, value) != ('k', 3):
                    tests = full + (('same', ('old', column), value),)
                    given.append(('abcdefghijkl'[len(given)], 't', 'update', (), 'ahead', 'row', tests,
                                  (('turn', column, (value + 1) % 4),)))
        # The digits that do not turn stay; v is set by the statement, so it is turned in any case.
        return Rules(schema, given), ('update', 't', (), (('v', 0),))

    def test_behind_many_statements(self):
        one, step = self.step_rules()
        self.assertEqual(run(one, step, (((0, 0, 3),),)), (((0, 1, 0),),))
        stop = made('z', 'update', when='ahead', level='statement', condition=(('some', 't', (('k', 3), ('x', 3), ('v', 2))),))
        found = agree(one, one + stop, [step])
        self.assertEqual(found, ('parted', (((0, 0, 0),),), [step] * 63))
        self.assertEqual(transact(one, found[1], found[2])[0], ['done'] * 64)
        self.assertEqual(transact(one + stop, found[1], found[2])[0], ['done'] * 62 + ['refused', 'done'])
        # The empty database gives one triple, the other one 63 ahead of the last list.
        self.assertEqual(agree(one, one + stop, [step], most=64), found)
        self.assertEqual(told(agree, one, one + stop, [step], most=63), ('TooMany', {'limit': 63}))
        late = made('z', when='late', actions=[DELETE], condition=(('same', ('new', 'k'), 2), ('same', ('new', 'x'), 1)))
        self.assertEqual(agree(one, one + late, [step]), ('parted', (((0, 0, 0),),), [step] * 36))

    def test_by_going_through_all_lists(self):
        seen = {}
        for seed in range(600):
            tables = [[('t', ('k', 'v'), 1)], [('t', ('k', 'v'), 1)], [('t', ('k',), 1), ('u', ('a',), 1)]][seed % 3]
            chance = Chance(seed, Schema(2, tables))
            chance.focus(chance.random.randint(1, 3))
            one = chance.any_rules(chance.random.randint(1, 4), whens=('ahead', 'behind', 'behind', 'late', 'late'))
            other = self.changed(chance, one)
            statements = list({chance.any_statement() for _ in range(chance.random.randint(0, 3))})
            most = chance.random.choice([9, 16, 20, 40, 1000, 1000])
            wanted = by_lists(one, other, statements, most)
            if wanted is None:
                continue
            kept = list(statements)
            found = told(agree, one, other, statements, most=most)
            self.assertEqual(statements, kept)
            if found != wanted:
                # Which one of several errors is raised at one list is not specified.
                self.assertEqual({found[0], wanted[0]}, {'TooMany', 'Endless'})
            if found[0] == 'returned' and found[1][0] == 'agree':
                self.assertIs(is_agreement(one, other, statements, found[1][1]), True)
            word = (found[1][0], len(found[1][2]) if found[1][0] == 'parted' else 0) if found[0] == 'returned' else found[0]
            seen[word] = True
        self.assertTrue({('agree', 0), ('parted', 1), ('parted', 2), 'TooMany', 'Endless'} <= set(seen), seen)

    def changed(self, chance, one):
        """Rules that are nearly the same as some."""
        way = chance.random.randint(0, 5)
        name = chance.random.choice(one.names)
        if way == 0:
            return one - name
        if way == 1:
            return one.by_name()
        if way == 2:
            return Rules(one.schema, one.rules[::-1], one.pairs)
        if way == 3:
            return one + chance.any_rule('z', ('behind', 'late'))
        if way == 4:
            times = {'behind': 'late', 'late': 'behind'}
            return Rules(one.schema, [rule[:4] + (times.get(rule[4], rule[4]),) + rule[5:] for rule in one.rules])
        return one + idle('z', 't', 'insert', 'row', 'late')


class ErrorsTest(unittest.TestCase):
    def test_endless_statements(self):
        both = [rules(LOOP), rules()]
        for one, other in (both, both[::-1], (both[0], both[0])):
            self.assertEqual(told(agree, one, other, [DELETE]), ('Endless', {}))
            self.assertEqual(told(agree, one, other, [NEW, DELETE]), ('Endless', {}))
        self.assertEqual(told(agree, *both, [NEW])[1][0], 'agree')
        # One refuses it, the other one does not end: that is Endless, not a last statement that one alone refuses.
        refused = rules(made('no', 'delete', level='statement', when='ahead'))
        self.assertEqual(told(agree, refused, both[0], [DELETE]), ('Endless', {}))
        self.assertEqual(told(agree, both[0], refused, [DELETE]), ('Endless', {}))

    def test_lists_behind_the_told_one_may_be_endless(self):
        one = rules(LOOP, COPY)
        self.assertEqual(agree(one, rules(LOOP), [NEW]), ('parted', EMPTY, [NEW]))
        two = made('two', 'delete', [('delete', 't', (('k', 1),))], level='statement', condition=(('some', 'u', ()),))
        last = [('delete', 't', (('k', 1),)), ('insert', 't', (0, 1))]
        self.assertEqual(agree(rules(two, COPY), rules(two), last), ('parted', EMPTY, [last[1]]))
        self.assertEqual(told(agree, rules(two), rules(two), last), ('Endless', {}))

    def test_endless_commits(self):
        update = ('update', 't', (), (('v', 0),))
        still = made('flip', 'update', [('update', 't', (), (('v', 0),))], when='late')
        one = (((0, 1),), ())
        self.assertEqual(told(transact, rules(FLIP), one, [update]), ('Endless', {}))
        for pair in ((FLIP, FLIP), (FLIP, still), (still, FLIP)):
            self.assertEqual(told(agree, rules(pair[0]), rules(pair[1]), [update]), ('Endless', {}))
        self.assertEqual(agree(rules(still), rules(still), [update])[0], 'agree')
        loop = rules(LOOP, made('a', when='late', actions=[DELETE]))
        self.assertEqual(told(agree, loop, loop, [NEW]), ('Endless', {}))
        self.assertEqual(told(agree, rules(), loop, [NEW]), ('Endless', {}))

    def test_no_commit_of_a_last_statement_that_one_alone_refuses(self):
        loop = [LOOP, made('a', when='late', actions=[DELETE])]
        refused = rules(made('no'))
        self.assertEqual(agree(rules(*loop), refused, [NEW]), ('parted', EMPTY, [NEW]))
        self.assertEqual(agree(refused, rules(*loop), [NEW]), ('parted', EMPTY, [NEW]))
        # Both refuse it, so nothing is committed.
        self.assertEqual(agree(rules(made('no'), *loop), rules(made('no'), *loop), [NEW])[0], 'agree')

    def test_4000_turns(self):
        new = TOWER[0]
        refused = rules(made('no'))
        for when in ('behind', 'late'):
            exact, more = tower(when=when), tower([idle('z', 't', 'insert', when=when)], when=when)
            self.assertEqual(agree(exact, exact, [new])[0], 'agree')
            for one, other in ((exact, more), (more, exact), (more, rules())):
                self.assertEqual(told(agree, one, other, [new]), ('TooMany', {'limit': 4000}))
            # A statement has these turns also if the other side refuses it; its commit has none then.
            wanted = ('TooMany', {'limit': 4000}) if when == 'behind' else ('returned', ('parted', EMPTY, [new]))
            self.assertEqual(told(agree, refused, more, [new]), wanted)
        self.assertIs(is_agreement(more, more, [], [(one, one, one) for one in small().databases()]), True)
        many = agree(exact, exact, [new])[1]
        self.assertIs(is_agreement(exact, exact, [new], many), True)
        # Runs that end do so there whatever the number of their turns.
        self.assertIs(is_agreement(more, more, [new], many), True)

    def test_most(self):
        for statements in ([], [NEW], [NEW, DELETE]):
            many = len(agree(rules(COPY), rules(COPY), statements)[1])
            for most in (many, many + 1, 4000):
                self.assertEqual(agree(rules(COPY), rules(COPY), statements, most=most)[0], 'agree')
            for most in (many - 1, many - 2, 20, 1):
                self.assertEqual(told(agree, rules(COPY), rules(COPY), statements, most=most), ('TooMany', {'limit': most}))
        self.assertEqual(len(agree(rules(), rules(), [])[1]), 36)

    def test_most_ahead_of_the_told_list(self):
        one = rules(made('a', 'delete', [offer(1)], condition=(('same', ('old', 'v'), 1),)))
        # Empty, then behind one insert.
        self.assertEqual(agree(one, rules(), [NEW, DELETE], most=2), ('parted', EMPTY, [NEW, DELETE]))
        self.assertEqual(told(agree, one, rules(), [NEW, DELETE], most=1), ('TooMany', {'limit': 1}))
        # The list itself does not count.
        self.assertEqual(agree(rules(COPY), rules(), [NEW], most=1), ('parted', EMPTY, [NEW]))
        # Six databases are ahead of the one with this row, with a triple each, and one with two.
        delete = ('delete', 't', (('k', 1),))
        self.assertEqual(small().databases()[6:7], [(((1, 1),), ())])
        self.assertEqual(agree(one, rules(), [delete], most=8), ('parted', (((1, 1),), ()), [delete]))
        self.assertEqual(told(agree, one, rules(), [delete], most=7), ('TooMany', {'limit': 7}))

    def test_most_left_out(self):
        three = Schema(2, [('t', ('k', 'v', 'x'), 2), ('u', ('k',), 1)])
        line = [('delete', 't', ()), ('delete', 'u', ())]
        none = Rules(three, [])
        many = len(agree(none, none, line, most=4000)[1])
        self.assertGreater(many, 1000)
        self.assertEqual(told(agree, none, none, line), ('TooMany', {'limit': 1000}))
        self.assertEqual(len(agree(none, none, line[1:])[1]), 567)
        self.assertEqual(told(agree, rules(), rules()), ('TooMany', {'limit': 1000}))
        self.assertEqual(len(agree(rules(), rules(), most=1296)[1]), 1296)

    def test_very_many_databases(self):
        schema = Schema(4, [('a', ('x', 'y', 'z'), 2), ('b', ('x', 'y', 'z'), 3), ('c', ('q', 'r'), 1)])
        none = Rules(schema, [])
        self.assertEqual(told(agree, none, none, []), ('TooMany', {'limit': 1000}))
        self.assertEqual(told(agree, none, none, most=4000), ('TooMany', {'limit': 4000}))
        wipe = ('delete', 'a', ())
        rule = ('r', 'a', 'delete', (), 'behind', 'row', (('same', ('old', 'x'), 3),), (('offer', 'c', (0, 0)),))
        first = (((3, 0, 0),), (), ())
        self.assertEqual(agree(none, Rules(schema, [rule]), [wipe]), ('parted', first, [wipe]))


class IsAgreementTest(unittest.TestCase):
    def setUp(self):
        self.one, self.other, self.statements = rules(COPY), rules(LATER), [NEW, OTHER]
        self.triples = agree(self.one, self.other, self.statements)[1]

    def check(self, thing, wanted=False):
        self.assertIs(is_agreement(self.one, self.other, self.statements, thing), wanted)

    def test_right_ones_in_any_order(self):
        for thing in (self.triples, self.triples[::-1], self.triples + self.triples[:3]):
            self.check(thing, True)
        self.assertIs(is_agreement(self.one, self.other, [OTHER, NEW], self.triples), True)
        self.assertIs(is_agreement(self.one, self.other, [NEW], self.triples), True)
        self.assertIs(is_agreement(rules(), rules(), [], [(one, one, one) for one in small().databases()]), True)

    def test_more_triples_that_are_closed(self):
        # With what comes of it, any triple may stand there whose commits have the same end.
        closed = [(one, two, two) for one in small().databases() for two in small().databases()]
        self.assertIs(is_agreement(rules(), rules(), [DELETE, NEW], closed), True)
        self.assertIs(is_agreement(rules(COPY), rules(COPY), [DELETE, NEW], closed[::-1]), True)
        self.check(self.triples + closed)

    def test_a_triple_out(self):
        for at in range(len(self.triples)):
            self.check(self.triples[:at] + self.triples[at + 1:])
        self.check([])

    def test_a_beginning_out(self):
        # Nothing leads there from elsewhere, but each database has to be there.
        triples = [(one, one, one) for one in small().databases()]
        for at in range(36):
            self.assertIs(is_agreement(rules(), rules(), [], triples[:at] + triples[at + 1:]), False)

    def test_sides_exchanged(self):
        turned = [(a, c, b) for a, b, c in self.triples]
        self.check(turned)
        self.assertIs(is_agreement(self.other, self.one, self.statements, turned), True)

    def test_a_triple_whose_commits_differ(self):
        self.check(self.triples + [(EMPTY, EMPTY, ((), ((0,),)))])
        self.assertIs(is_agreement(rules(), rules(), [], [(one, one, one) for one in small().databases()]
                                   + [(EMPTY, EMPTY, ((), ((0,),)))]), False)
        self.assertIs(is_agreement(rules(made('no', when='late')), rules(), [],
                                   [(one, one, one) for one in small().databases()] + [(EMPTY, (((0, 1),), ()), (((0, 1),), ()))]), False)

    def test_one_alone_refuses(self):
        same = [(one, one, one) for one in small().databases()]
        no = made('no', 'delete', level='statement', when='ahead')
        self.assertIs(is_agreement(rules(no), rules(), [('delete', 'u', (('k', 0),))], same), False)
        self.assertIs(is_agreement(rules(no), rules(no), [DELETE], same), True)
        self.assertIs(is_agreement(rules(no), rules(), [DELETE], same), False)
        self.assertIs(is_agreement(rules(), rules(no), [DELETE], same), False)
        # Both sides have the same database behind it, but another word.
        still = ('update', 't', (), (('k', 0),))
        stop = made('stop', 'update', level='statement', when='ahead')
        self.assertIs(is_agreement(rules(stop), rules(), [still], same), False)

    def test_what_does_not_end(self):
        same = [(one, one, one) for one in small().databases()]
        for one, other in ((rules(LOOP), rules()), (rules(), rules(LOOP)), (rules(LOOP), rules(LOOP))):
            self.assertIs(is_agreement(one, other, [DELETE], same), False)
            self.assertIs(is_agreement(one, other, [], same), True)

    def test_rows_with_other_parts(self):
        # Each change of a triple leaves one that is missing, or is no triple.
        for at in (0, 7, len(self.triples) - 1):
            for other in nearly(self.triples[at]):
                if repr(other) != repr(self.triples[at]):
                    self.check(self.triples[:at] + [other] + self.triples[at + 1:])
        self.check([list(triple) for triple in self.triples])
        self.check([triple[:2] for triple in self.triples])
        self.check([triple + triple[:1] for triple in self.triples])
        self.check([true_for_one(triple) for triple in self.triples])
        self.check(self.triples + [true_for_one((((((0, 1),), ()),) * 3))])
        self.check(tuple(self.triples))
        self.check({triple: True for triple in self.triples})

    def test_any_value(self):
        for thing in any_values():
            self.check(thing)
            self.check([thing])
            self.check(self.triples + [thing])
            self.check([thing] + self.triples)
            self.check(self.triples + [(thing, EMPTY, EMPTY)], thing == EMPTY)
            self.check(self.triples + [(EMPTY, EMPTY, thing)], thing == EMPTY)

    def test_of_very_many_databases(self):
        schema = Schema(4, [('a', ('x', 'y', 'z'), 2), ('b', ('x', 'y', 'z'), 3), ('c', ('q', 'r'), 1)])
        for thing in ([], [(schema.empty,) * 3], any_values()):
            self.assertIs(is_agreement(Rules(schema, []), Rules(schema, []), [], thing), False)

    def test_changed_by_chance(self):
        right = 0
        for seed in range(60):
            chance = Chance(seed, Schema(2, [('t', ('k',), 1), ('u', ('a',), 1)]))
            chance.focus(3)
            one = chance.any_rules(2, whens=('behind', 'late'))
            statements = list({chance.any_statement() for _ in range(2)})
            found = told(agree, one, one, statements)
            if found[0] != 'returned':
                continue
            triples = found[1][1]
            self.assertIs(is_agreement(one, one, statements, triples), True)
            for _ in range(8):
                thing = list(triples)
                at = chance.random.randrange(len(thing))
                now = chance.database()
                thing.append((thing[at][0], now, chance.random.choice([now, chance.database()])))
                found = is_agreement(one, one, statements, thing)
                self.assertIs(found, self.by_hand(one, statements, thing))
                right += found
        self.assertGreater(right, 50)

    def by_hand(self, one, statements, thing):
        """What is_agreement tells of triples, both sides being the same."""
        try:
            for database in one.schema.databases():
                if (database,) * 3 not in thing:
                    return False
            for first, now, there in thing:
                if commit(one, first, now, limit=4000) != commit(one, first, there, limit=4000):
                    return False
                for statement in statements:
                    ends = [run(one, statement, side, limit=4000) for side in (now, there)]
                    if None in ends and ends != [None, None]:
                        return False
                    if None not in ends and (first, *ends) not in thing:
                        return False
        except Endless:
            return False
        return True


class AlikeTest(unittest.TestCase):
    def test_the_tables_of_decide(self):
        line = [(NEW, EMPTY), (DELETE, (((0, 1),), ()))]
        one, other = rules(COPY), rules(COPY[:7] + (COPY[7] * 2,))
        found = alike(one, other, line)
        self.assertEqual(found, ('alike', decide(one, line)[1], decide(other, line)[1]))
        self.assertNotEqual(found[1], found[2])
        self.assertIs(is_table(one, line, found[1]), True)
        self.assertIs(is_table(other, line, found[2]), True)
        self.assertEqual(alike(rules(COPY), rules(), []), ('alike', [], []))

    def test_calls_that_are_no_starts_may_differ(self):
        one = rules(COPY, made('b', table='u', actions=[('delete', 'u', ())], condition=(('some', 't', ()),)))
        other = rules(made('copy'), made('b', table='u', actions=[('delete', 'u', ())], condition=(('some', 't', ()),)))
        self.assertEqual(alike(one, other, [(NEW, EMPTY)])[0], 'parted')
        two = rules(made('a', actions=[offer(0), ('delete', 'u', ())]))
        self.assertEqual(alike(two, rules(), [(NEW, EMPTY)]), ('alike', decide(two, [(NEW, EMPTY)])[1], decide(rules(), [(NEW, EMPTY)])[1]))

    def test_parted_with_the_least_end(self):
        row, both = (((0, 1),), ()), (((0, 1),), ((0,),))
        lock = made('lock', condition=(('some', 'u', ()),))
        self.assertEqual(alike(rules(COPY), rules(), [(NEW, EMPTY)]), ('parted', NEW, EMPTY, row))
        self.assertEqual(alike(rules(), rules(COPY), [(NEW, EMPTY)]), ('parted', NEW, EMPTY, row))
        # None is ahead of all: one has it and the other end, too.
        self.assertEqual(decide(rules(COPY, lock), [(NEW, EMPTY)])[1][0][2], [None, both])
        self.assertEqual(alike(rules(COPY, lock), rules(COPY), [(NEW, EMPTY)]), ('parted', NEW, EMPTY, None))
        self.assertEqual(alike(rules(COPY), rules(COPY, lock), [(NEW, EMPTY)]), ('parted', NEW, EMPTY, None))
        self.assertEqual(alike(rules(COPY, lock), rules(), [(NEW, EMPTY)]), ('parted', NEW, EMPTY, None))
        self.assertEqual(alike(rules(COPY, lock), rules(made('no')), [(NEW, EMPTY)]), ('parted', NEW, EMPTY, both))
        self.assertEqual(alike(rules(made('no')), rules(COPY, lock), [(NEW, EMPTY)]), ('parted', NEW, EMPTY, both))

    def test_the_first_start(self):
        late = [(NEW, (((1, 0),), ())), (NEW, EMPTY), (NEW, ((), ((1,),)))]
        for line in (late, late[::-1]):
            self.assertEqual(alike(rules(COPY), rules(), line)[:3], ('parted', NEW, EMPTY))
            self.assertEqual(alike(rules(COPY), rules(), [start for start in line if start[1] != EMPTY])[:3],
                             ('parted', NEW, ((), ((1,),))))
        self.assertEqual(alike(rules(COPY), rules()), ('parted', NEW, EMPTY, (((0, 1),), ())))
        self.assertEqual(alike(rules(COPY), rules(), starts(small())[::-1]), ('parted', NEW, EMPTY, (((0, 1),), ())))
        two = rules(made('no', table='u'), COPY)
        self.assertEqual(alike(two, rules(COPY)), ('parted', ('insert', 't', (0, 1)), EMPTY, None))

    def test_starts_left_out(self):
        one, other = rules(COPY), rules(COPY, made('z', condition=(('same', 0, 1),)))
        self.assertEqual(alike(one, other), ('alike', decide(one)[1], decide(other)[1]))
        self.assertEqual(alike(one, other, starts=starts(small()), most=600), alike(one, other))

    def test_endless(self):
        line = [(DELETE, EMPTY), (NEW, EMPTY)]
        wanted = ('endless', DELETE, EMPTY, ['loop', 'loop'])
        self.assertEqual(decide(rules(LOOP), line), wanted[:3] + (['loop'],))
        wanted = decide(rules(LOOP), line)
        self.assertEqual(alike(rules(LOOP), rules(), line), wanted)
        self.assertEqual(alike(rules(), rules(LOOP), line), wanted)
        # Ahead of a start at which they are parted.
        self.assertEqual(alike(rules(LOOP, COPY), rules(), line)[:3], wanted[:3])
        again = made('again', actions=[NEW, ('delete', 't', ())], level='statement')
        both = rules(LOOP), rules(made('again', 'insert', [('offer', 't', (0, 1))], level='statement'))
        self.assertEqual(alike(*both, line)[:3], ('endless', DELETE, EMPTY))
        self.assertEqual(alike(*both[::-1], line)[:3], ('endless', *decide(both[1], line)[1:3]))
        self.assertEqual(decide(both[1], line)[1], NEW)
        self.assertEqual(alike(rules(again), rules(), [(DELETE, EMPTY)])[0], 'alike')

    def test_the_errors_of_decide(self):
        # Of other is asked only if that of one tells that all runs end.
        line = [(DELETE, EMPTY), (NEW, EMPTY)]
        self.assertEqual(told(alike, rules(COPY), rules(), line, most=2), ('TooMany', {'limit': 2}))
        self.assertEqual(told(alike, rules(), rules(COPY), line, most=2), ('TooMany', {'limit': 2}))
        self.assertEqual(alike(rules(), rules(), line, most=2)[0], 'alike')
        self.assertEqual(alike(rules(COPY), rules(), line, most=3)[0], 'parted')
        self.assertEqual(alike(rules(LOOP), rules(COPY), line, most=2)[0], 'endless')
        self.assertEqual(told(alike, rules(COPY), rules(LOOP), line, most=2), ('TooMany', {'limit': 2}))
        three = Schema(2, [('t', ('k', 'v', 'x'), 2), ('u', ('k',), 1)])
        self.assertEqual(told(alike, Rules(three, []), Rules(three, [])), ('TooMany', {'limit': 1000}))

    def test_by_chance(self):
        seen = {}
        for seed in range(300):
            chance = Chance(seed, Schema(2, [('t', ('k', 'v'), 1), ('u', ('a',), 1)]))
            chance.focus(chance.random.randint(1, 4))
            one = chance.any_rules(chance.random.randint(1, 4))
            other = chance.random.choice([one - one.names[0], one.by_name(), one + chance.any_rule('z'),
                                          Rules(one.schema, one.rules)])
            line = list({(chance.any_statement(), chance.database()) for _ in range(4)})
            tables = [decide(side, line) for side in (one, other)]
            endless = [found for found in tables if found[0] == 'endless']
            found = alike(one, other, line)
            if endless:
                self.assertEqual(found, endless[0])
            else:
                ends = [{row[:2]: row[2] for row in table} for _, table in tables]
                parted = [start for start in sorted(line, key=start_order) if ends[0][start] != ends[1][start]]
                if parted:
                    only = [end for end in set(ends[0][parted[0]]) ^ set(ends[1][parted[0]])]
                    least = None if None in only else min(only)
                    self.assertEqual(found, ('parted', *parted[0], least))
                else:
                    self.assertEqual(found, ('alike', tables[0][1], tables[1][1]))
            seen[found[0]] = True
        self.assertEqual(set(seen), {'alike', 'parted', 'endless'})


class AskedTwiceTest(unittest.TestCase):
    def test_it(self):
        one, other = rules(COPY), rules(LATER)
        for call, given in ((agree, [NEW, OTHER]), (agree, [NEW, DELETE]), (alike, starts(small(), [DELETE])),
                            (alike, [(NEW, EMPTY), (DELETE, EMPTY)])):
            kept = copy.deepcopy(given)
            first = call(one, other, given)
            again = copy.deepcopy(first)
            self.assertEqual(given, kept)
            for part in first[1:]:
                if isinstance(part, list):
                    for row in part:
                        if isinstance(row[-2], list):
                            row[-2].clear()
                    part.clear()
            self.assertEqual(call(one, other, given), again)
            given.clear()
            self.assertEqual(call(one, other, kept), again)
        triples = agree(one, other, [NEW])[1]
        kept = copy.deepcopy(triples)
        statements = [OTHER, NEW]
        is_agreement(one, other, statements, triples)
        self.assertEqual((statements, triples), ([OTHER, NEW], kept))
        self.assertEqual((one, other), (rules(COPY), rules(LATER)))


if __name__ == '__main__':
    unittest.main()
