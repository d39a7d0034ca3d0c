"""[101], [102]: statements and rules as texts."""

import itertools
import unittest

from firingrules.notation import read_rule, read_statement, show_rule, show_statement
from firingrules.rules import is_rule
from firingrules.schemas import Schema
from firingrules.statements import is_statement, single
from tests.chance import Chance
from tests.support import all_statements, any_values, large, made, small, told

# Tables and columns with the words of the notation as names.
WORDS = [
    Schema(2, [('set', ('set', 'of', 'if'), 1), ('rule', ('do', 'row', 'late'), 2), ('insert', ('behind', 'ahead', 'old'), 3)]),
    Schema(3, [('new', ('new', 'old'), 1), ('update', ('same', 'other', 'some'), 1), ('no', ('refuse', 'skip', 'turn'), 2)]),
    Schema(4, [('delete', ('delete', 'offer'), 1), ('offer', ('of', 'set'), 1), ('of', ('t', 'k'), 1)]),
    Schema(2, [('row', ('behind', 'row', 'late'), 1), ('if', ('ahead', 'x', 'of'), 3), ('do', ('k',), 1)]),
]
NO_TEXT = ('NoText', {})


def term(thing):
    """The word of a term."""
    return '{}.{}'.format(*thing) if isinstance(thing, tuple) else str(thing)


def written(statement):
    """The text of a statement, as the document tells it."""
    if statement[0] in ('insert', 'offer'):
        return ' '.join([*statement[:2], *map(term, statement[2])])
    found = [*statement[:2]] + ['{}={}'.format(column, term(value)) for column, value in statement[2]]
    if statement[0] == 'update':
        found += ['set'] + ['{}={}'.format(column, term(value)) for column, value in statement[3]]
    return ' '.join(found)


def written_rule(rule):
    """The text of a rule, as the document tells it."""
    name, table, event, columns, when, level, condition, actions = rule
    text = 'rule {} {} {}'.format(name, event, table)
    if columns:
        text += ' of ' + ' '.join(columns)
    text += ' {} {}'.format(when, level)
    for word, one, other in condition:
        if word in ('same', 'other'):
            text += '; if {} {} {}'.format(word, term(one), term(other))
        else:
            text += '; if ' + ' '.join([word, one] + ['{}={}'.format(column, term(value)) for column, value in other])
    for action in actions:
        if action[0] == 'turn':
            text += '; do turn {} {}'.format(action[1], term(action[2]))
        else:
            text += '; do ' + (action[0] if len(action) == 1 else written(action))
    return text


def changed(text):
    """Texts with a blank, a line feed or a word more, fewer, doubled or elsewhere."""
    found = ['', ' ' + text, text + ' ', '\n' + text, text + '\n', text + ';', text + '; ', '; ' + text, text.upper(), text + '=',
             text.replace(' ', '  '), text.replace(' ', '\n'), text.replace(' ', '\t'), text.replace(' ', ''), text.replace(';', ' ;'),
             text.replace('; ', ';'), text.replace(';', ''), text.replace('; ', ' '), text.replace('=', ' = '), text.replace('.', ' . ')]
    for at in range(len(text) + 1):
        found += [text[:at] + one + text[at:] for one in (' ', '\n', '0', '1', 'a', ';', '=', '.', ',')] + [text[:at] + text[at + 1:]]
    words = text.split(' ')
    for at, word in enumerate(words):
        found += [' '.join(words[:at] + more + words[at + 1:]) for more in
                  ([], [word, word], [''], ['00'], ['01'], ['-1'], ['+1'], ['1.0'], ['9'], ['4'], ['3'], ['2'], ['1' * 5000], ['0' * 5000],
                   ['of'], ['set'], ['if'], ['do'], ['old.k'], ['new.k'], ['old.nought'], ['k'], ['k=0'], ['k=1'], ['k=old.k'], ['True'],
                   ['k=' + '7' * 5000], ['k=00'], ['k='], ['=0'], ['=']) if more != [word]]
        found += [' '.join([one for one in words[:at] + words[at + 1:to] + [word] + words[to:]]) for to in range(at + 2, len(words) + 1)]
    return [one for one in found if one != text]


class ShowStatementTest(unittest.TestCase):
    def test_each_kind(self):
        for statement, text in [
                (('insert', 't', (0, 1)), 'insert t 0 1'),
                (('offer', 'u', (1,)), 'offer u 1'),
                (('delete', 't', ()), 'delete t'),
                (('delete', 't', (('k', 0), ('v', 1))), 'delete t k=0 v=1'),
                (('update', 't', (('k', 0),), (('v', 1),)), 'update t k=0 set v=1'),
                (('update', 't', (), (('k', 0), ('v', 1))), 'update t set k=0 v=1'),
                (('update', 't', (('k', 1), ('v', 0)), (('k', 0),)), 'update t k=1 v=0 set k=0')]:
            self.assertEqual(show_statement(statement), text)
            self.assertEqual(read_statement(small(), text), statement)

    def test_all_statements(self):
        for schema in (small(), Schema(3, [('set', ('set',), 1), ('t', ('of', 'set'), 1)]), Schema(2, [('update', ('set', 'insert', 'k'), 2)])):
            texts = {}
            for statement in all_statements(schema.tables, range(schema.size)):
                self.assertIs(is_statement(schema, statement), True)
                text = show_statement(statement)
                self.assertEqual(text, written(statement))
                self.assertEqual(read_statement(schema, text), statement)
                texts[text] = True
            self.assertEqual(len(texts), len(all_statements(schema.tables, range(schema.size))))

    def test_tables_and_columns_with_words_as_names(self):
        for schema in WORDS + [large()]:
            for statement in single(schema):
                self.assertEqual(show_statement(statement), written(statement))
                self.assertEqual(read_statement(schema, show_statement(statement)), statement)
            for seed in range(100):
                statement = Chance(seed, schema).any_statement()
                self.assertEqual(show_statement(statement), written(statement))
                self.assertEqual(read_statement(schema, show_statement(statement)), statement)
        self.assertEqual(read_statement(WORDS[0], 'update set set=1 set set=0 of=1'),
                         ('update', 'set', (('set', 1),), (('set', 0), ('of', 1))))
        self.assertEqual(read_statement(WORDS[0], 'update set set set=0'), ('update', 'set', (), (('set', 0),)))


class ReadStatementTest(unittest.TestCase):
    def test_every_other_text(self):
        schema = small()
        good = {written(statement): statement for statement in all_statements(schema.tables, range(2))}
        seen = {}
        for text in ['insert t 0 1', 'offer u 1', 'delete t', 'delete t k=0 v=1', 'update t k=0 set v=1', 'update u set k=0',
                     'update t k=0 v=0 set k=1 v=1']:
            for other in changed(text):
                if other in good:
                    self.assertEqual(read_statement(schema, other), good[other])
                else:
                    self.assertEqual(told(read_statement, schema, other), NO_TEXT, other)
                seen[other in good] = True
        self.assertEqual(len(seen), 2)

    def test_all_texts_of_few_words(self):
        schema = Schema(2, [('set', ('set', 'k'), 1)])
        good = {written(statement): statement for statement in all_statements(schema.tables, range(2))}
        words = ['insert', 'delete', 'update', 'set', '0', '1', '2', 'k=0', 'set=1', 'k=2', 'k', '']
        many = 0
        for length in range(6):
            for line in itertools.product(words, repeat=length):
                if length == 5 and line[0] != 'update':
                    continue
                text = ' '.join(line)
                found = told(read_statement, schema, text)
                self.assertEqual(found, ('returned', good[text]) if text in good else NO_TEXT)
                many += text in good
        self.assertEqual(many, 15)

    def test_values_and_columns(self):
        for text in ['insert t 0 2', 'insert t 0', 'insert t 0 1 1', 'insert u 0 1', 'insert w 0', 'delete t k=2', 'delete t v=0 k=0',
                     'delete t k=0 k=0', 'delete u v=0', 'update t k=0 set', 'update t k=0', 'update t set', 'update t v=0', 'update t',
                     'update t set v=0 set v=0', 'update t set v=0 k=0', 'update t v=0 k=0 set v=1', 'insert t 00 1', 'insert t 0 01',
                     'delete t k=00', 'delete t k=-0', 'insert t 0 new.v', 'delete t k=old.k', 'update t set v=new.k', 'insert t k=0 v=1',
                     'delete t 0', 'refuse', 'skip', 'turn k 0', 'insert', 'delete', 'update', 'offer', '', ' ', '\n', 'delete t;', 'delete  t',
                     'Delete t', 'delete T', 'insert t 0 1\n', 'delete t k = 0', 'delete t k==0', 'delete t k=0=0', 'delete t k']:
            self.assertEqual(told(read_statement, small(), text), NO_TEXT, text)
        self.assertEqual(read_statement(large(), 'insert c 3 2'), ('insert', 'c', (3, 2)))
        for text in ['insert c 4 0', 'insert c 03 2', 'insert c 3 10', 'insert c ' + '3' * 5000 + ' 0', 'delete c q=' + '0' * 9000]:
            self.assertEqual(told(read_statement, large(), text), NO_TEXT)

    def test_statements_of_another_schema(self):
        self.assertEqual(told(read_statement, large(), 'insert t 0 1'), NO_TEXT)
        self.assertEqual(told(read_statement, small(), 'insert c 0 1'), NO_TEXT)
        self.assertEqual(told(read_statement, small(), show_statement(('delete', 'a', ()))), NO_TEXT)

    def test_any_value(self):
        for thing in any_values() + [('insert', 't', (0, 1)), ['insert', 't', '0', '1'], b'delete t', ('delete t',), ['delete t']]:
            self.assertEqual(told(read_statement, small(), thing), NO_TEXT)
            self.assertEqual(told(read_rule, small(), thing), NO_TEXT)


class ShowRuleTest(unittest.TestCase):
    def test_each_part(self):
        for rule, text in [
                (made('no'), 'rule no insert t behind row; do refuse'),
                (made('no', 'delete', when='late', level='statement'), 'rule no delete t late statement; do refuse'),
                (made('a', 'update', columns=('v',), actions=[('turn', 'v', ('old', 'v')), ('turn', 'k', 1), ('skip',)], when='ahead'),
                 'rule a update t of v ahead row; do turn v old.v; do turn k 1; do skip'),
                (made('b', 'update', columns=('k', 'v'), condition=(('same', ('old', 'k'), ('new', 'k')), ('other', 0, ('new', 'v')),
                                                                     ('some', 'u', ()), ('no', 't', (('k', 0), ('v', ('old', 'v')))))),
                 'rule b update t of k v behind row; if same old.k new.k; if other 0 new.v; if some u; if no t k=0 v=old.v; do refuse'),
                (made('c', actions=[('insert', 't', (0, ('new', 'v'))), ('delete', 't', ()), ('update', 'u', (), (('k', ('new', 'k')),))]),
                 'rule c insert t behind row; do insert t 0 new.v; do delete t; do update u set k=new.k'),
                (made('d', 'delete', actions=[('update', 't', (('k', ('old', 'k')),), (('v', 0),)), ('offer', 'u', (1,)),
                                              ('delete', 'u', (('k', ('old', 'v')),))]),
                 'rule d delete t behind row; do update t k=old.k set v=0; do offer u 1; do delete u k=old.v')]:
            self.assertIs(is_rule(small(), rule), True)
            self.assertEqual(show_rule(rule), text)
            self.assertEqual(read_rule(small(), text), rule)

    def test_rules_of_every_kind(self):
        kinds = {}
        for number, schema in enumerate(WORDS + [small(), large()]):
            for seed in range(500):
                chance = Chance(seed, schema)
                name = chance.random.choice(['a', 'rule', 'of', 'behind', 'do', 'statemen', 'abcdefgh'])
                rule = chance.any_rule(name, ('ahead', 'behind', 'late'))
                self.assertIs(is_rule(schema, rule), True)
                text = show_rule(rule)
                self.assertEqual(text, written_rule(rule))
                self.assertEqual(read_rule(schema, text), rule)
                kinds[(rule[2], rule[4], rule[5])] = True
        self.assertEqual(len(kinds), 18)

    def test_columns_that_are_words(self):
        schema = WORDS[3]
        for columns in [('behind',), ('row',), ('behind', 'row'), ('late',), ('behind', 'row', 'late'), ('row', 'late'), ()]:
            for when in ('behind', 'late', 'ahead'):
                rule = ('row', 'row', 'update', columns, when, 'row', (), (('refuse',),))
                self.assertEqual(read_rule(schema, show_rule(rule)), rule)
        self.assertEqual(read_rule(schema, 'rule of update row of behind behind row; do refuse'),
                         ('of', 'row', 'update', ('behind',), 'behind', 'row', (), (('refuse',),)))
        self.assertEqual(told(read_rule, schema, 'rule of update row of behind row; do refuse'), NO_TEXT)
        self.assertEqual(told(read_rule, schema, 'rule of update row of behind statement; do refuse'), NO_TEXT)


class ReadRuleTest(unittest.TestCase):
    def test_every_other_text(self):
        schema = small()
        seen = {}
        for text in ['rule copy insert t behind row; if same new.v 1; do offer u new.k',
                     'rule a update t of k v ahead row; if some u k=old.k; do turn v new.k; do skip',
                     'rule b delete t late statement; if no t; if other 0 1; do update t k=0 set v=1; do refuse']:
            good = read_rule(schema, text)
            for other in changed(text):
                found = told(read_rule, schema, other)
                if found[0] == 'returned':
                    self.assertIs(is_rule(schema, found[1]), True)
                    self.assertEqual(written_rule(found[1]), other)
                    self.assertNotEqual(found[1], good)
                else:
                    self.assertEqual(found, NO_TEXT)
                seen[found[0]] = seen.get(found[0], 0) + 1
        # Most of them write nothing; some write another rule, as one of another name.
        self.assertGreater(seen['NoText'], 10 * seen['returned'])

    def test_words_that_are_missing_or_elsewhere(self):
        for text in ['rule', 'rule a', 'rule a insert', 'rule a insert t', 'rule a insert t behind', 'rule a insert t behind row',
                     'rule a insert t behind row;', 'rule a insert t behind row; ', 'rule a insert t behind row; do', 'rule a insert t behind row; if',
                     'rule a insert t behind row; do ', 'rule a insert t behind row; if ; do refuse', 'rule a insert t behind row; if same; do refuse',
                     'rule a insert t behind row; do refuse refuse', 'rule a insert t behind row; refuse', 'rule a insert t behind row; do refuse;',
                     'rule a insert t behind row; do refuse; if same 0 0', 'rule a insert t row behind; do refuse', 'rule a t insert behind row; do refuse',
                     'rule a insert t behind row ; do refuse', 'rule a insert t behind row;do refuse', 'rule a insert t behind row do refuse',
                     'rule a insert t of behind row; do refuse', 'rule a update t of behind row; do refuse', 'rule a update t k behind row; do refuse',
                     'rule a update t of v k behind row; do refuse', 'rule a update t of k k behind row; do refuse', 'rule a insert t of k behind row; do refuse',
                     'rule a update t off k behind row; do refuse', 'rules a insert t behind row; do refuse', 'a insert t behind row; do refuse',
                     'rule A insert t behind row; do refuse', 'rule abcdefghi insert t behind row; do refuse', 'rule a insert t behind row; do skip',
                     'rule a insert t ahead row; do offer u 0', 'rule a insert t behind row; do turn k 0', 'rule a insert t ahead row; do turn k',
                     'rule a insert t ahead row; do turn', 'rule a insert t ahead row; do turn k 0 0', 'rule a insert t ahead row; do turn q 0',
                     'rule a insert t behind row; if same old.k 0; do refuse', 'rule a delete t behind row; if same new.k 0; do refuse',
                     'rule a insert t behind statement; if same new.k 0; do refuse', 'rule a insert t behind row; if same new.q 0; do refuse',
                     'rule a insert t behind row; if same 0; do refuse', 'rule a insert t behind row; if same 0 0 0; do refuse',
                     'rule a insert t behind row; if some w; do refuse', 'rule a insert t behind row; if some; do refuse',
                     'rule a insert t behind row; if some t v=0 k=0; do refuse', 'rule a insert t behind row; if same 2 0; do refuse',
                     'rule a insert t behind row; if same 00 0; do refuse', 'rule a insert t behind row; if same new.k.v 0; do refuse',
                     'rule a insert t behind row; if same .k 0; do refuse', 'rule a insert t behind row; if same new. 0; do refuse',
                     'rule a insert t behind row' + '; if same 0 0' * 5 + '; do refuse', 'rule a insert t behind row' + '; do refuse' * 4,
                     'rule a insert t behind row' + '; do refuse' * 5000]:
            self.assertEqual(told(read_rule, small(), text), NO_TEXT, text)
        for text in ['rule a insert t behind row' + '; if same 0 0' * 4 + '; do refuse' * 3]:
            self.assertEqual(written_rule(read_rule(small(), text)), text)

    def test_rules_of_another_schema(self):
        text = show_rule(('a', 'c', 'insert', (), 'behind', 'row', (), (('offer', 'c', (3, 0)),)))
        self.assertEqual(show_rule(read_rule(large(), text)), text)
        self.assertEqual(told(read_rule, small(), text), NO_TEXT)
        self.assertEqual(told(read_rule, Schema(3, [('c', ('q', 'r'), 1)]), text), NO_TEXT)
        self.assertEqual(read_rule(Schema(4, [('c', ('q', 'r'), 1)]), text), read_rule(large(), text))

    def test_statements_are_no_rules(self):
        self.assertEqual(told(read_rule, small(), 'delete t'), NO_TEXT)
        self.assertEqual(told(read_statement, small(), 'rule a insert t behind row; do refuse'), NO_TEXT)
        schema = Schema(2, [('rule', ('rule',), 1)])
        self.assertEqual(read_statement(schema, 'insert rule 0'), ('insert', 'rule', (0,)))
        self.assertEqual(read_rule(schema, 'rule rule insert rule behind row; do insert rule new.rule'),
                         ('rule', 'rule', 'insert', (), 'behind', 'row', (), (('insert', 'rule', (('new', 'rule'),)),)))


if __name__ == '__main__':
    unittest.main()
