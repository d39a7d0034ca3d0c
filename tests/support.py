"""What several tests use: values of all kinds, and values that are nearly right."""

from firingrules.errors import RuleError, Wrong
from firingrules.ruleset import Rules
from firingrules.schemas import Schema

REFUSE = (('refuse',),)


def small():
    """The schema of the examples of the document."""
    return Schema(2, [('t', ('k', 'v'), 1), ('u', ('k',), 1)])


def large():
    """A schema with many rows, and tables with one, two and three key columns."""
    return Schema(4, [('a', ('x', 'y', 'z'), 2), ('b', ('x', 'y', 'z'), 3), ('c', ('q', 'r'), 1)])


def nested(kind, depth):
    """A value of a kind that takes a list, so many deep."""
    thing = 1
    for _ in range(depth):
        thing = kind([thing])
    return thing


def any_values():
    """New values of all kinds that a parameter described as any value accepts."""
    schema = small()
    copy = ('copy', 't', 'insert', (), 'behind', 'row', (), (('refuse',),))
    return [
        0, 1, 2, 3, 4, 5, -1, -2, 10 ** 40, -10 ** 40, True, False, None, 2j,
        '', ' ', '\n', 'a', 't', 'k', 'v', 'u', 'a\n', '\na', 'a b', 'a_b', 'a1', 'A', 'abcdefgh', 'abcdefghi',
        'insert', 'x' * 20000, b'', b'a', b't',
        (), (1,), (0, 1), (True,), ('t',), ('a', 'b'), (None,), ((),), ((), ()), ([],), (((), ()),),
        [], [1], ['t'], [[]], [()], {}, {'t': 1}, {1: [2]}, set(), {1}, {'t'}, frozenset(), frozenset(['t']),
        ('refuse',), ('insert', 't', (0, 1)), copy, ('copy', 'lock'),
        nested(tuple, 19), nested(list, 19), nested(lambda one: {'a': one[0]}, 19),
        tuple(range(19999)), list(range(19999)), {at: 'a' for at in range(9999)}, ((0,),) * 9999,
        schema, Schema(3, [('t', ('k',), 1)]), Rules(schema, [copy]), [schema], (schema,),
        schema.databases(), schema.rows('t'), schema.tables, len, int, Schema, RuleError, object(), Wrong(3), range(3),
    ]


def nearly(thing):
    """All copies of a value in which one place is changed, left out, doubled or exchanged."""
    if isinstance(thing, bool):
        return [not thing, int(thing), None]
    if isinstance(thing, int):
        return [thing + 1, thing - 1, -thing, bool(thing), 2, 4, 10 ** 20, None, str(thing), (thing,)]
    if isinstance(thing, str):
        words = ['t', 'u', 'k', 'v', 'old', 'new', 'insert', 'delete', 'update', 'row', 'statement', 'nought']
        return [thing + '\n', thing + ' ', thing.upper(), thing[1:], '', thing.encode(), [thing], None, 0] + words
    if not isinstance(thing, tuple):
        return []
    found = [list(thing), thing + (None,), thing + (0,), thing + ((),), (thing,), None, 0, {}, ()]
    for at, part in enumerate(thing):
        found += [thing[:at] + (other,) + thing[at + 1:] for other in nearly(part)]
        found.append(thing[:at] + thing[at + 1:])
        found.append(thing[:at] + (part,) + thing[at:])
        for other in range(at):
            swapped = list(thing)
            swapped[at], swapped[other] = swapped[other], swapped[at]
            found.append(tuple(swapped))
    return found


def picks(parts, most, least=0):
    """All tuples of least to most of some parts, in any order, also several times."""
    found = [()]
    layer = [()]
    for _ in range(most):
        layer = [head + (part,) for head in layer for part in parts]
        found += layer
    return [one for one in found if len(one) >= least]


def told(call, *given, **named):
    """What a call returns, or the error that it raises, with its fields."""
    try:
        return ('returned', call(*given, **named))
    except RuleError as error:
        return (error.__class__.__name__, vars(error))


def all_pairs(columns, terms):
    """All tuples of pairs of different columns, in their order, and terms."""
    found = [()]
    for column in columns:
        found += [pairs + ((column, term),) for pairs in found for term in terms]
    return found


def all_statements(tables, terms):
    """All statements of some tables, with these terms in the place of values."""
    found = []
    for table, columns, _ in tables:
        rows = [row for row in picks(terms, len(columns)) if len(row) == len(columns)]
        wheres = all_pairs(columns, terms)
        found += [(kind, table, row) for kind in ('insert', 'offer') for row in rows]
        found += [('delete', table, where) for where in wheres]
        found += [('update', table, where, sets) for where in wheres for sets in wheres if sets != ()]
    return found


def all_tests(tables, terms):
    """All tests over some tables, with these terms."""
    found = [(word, one, other) for word in ('same', 'other') for one in terms for other in terms]
    for table, columns, _ in tables:
        found += [(word, table, where) for word in ('some', 'no') for where in all_pairs(columns, terms)]
    return found


def made(name, event='insert', actions=REFUSE, columns=(), when='behind', level='row', condition=(), table='t'):
    """A rule."""
    return (name, table, event, columns, when, level, condition, tuple(actions))


def offer(value):
    """An action that offers a row to u."""
    return ('offer', 'u', (value,))


def true_for_one(thing):
    """A value with True and False in the place of 1 and 0."""
    if isinstance(thing, (tuple, list)):
        return thing.__class__([true_for_one(part) for part in thing])
    return bool(thing) if thing in (0, 1) and isinstance(thing, int) else thing


def ascending(things):
    """A list in ascending order, None first."""
    return ([None] if None in things else []) + sorted([thing for thing in things if thing is not None])
