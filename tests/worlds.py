"""Rules whose runs are long, or whose calls stand in one another many times."""

from firingrules.ruleset import Rules
from firingrules.schemas import Schema

LETTERS = 'abcdefghijkl'
ZEROS = (('a', 0), ('b', 0), ('c', 0))
ONES = (('a', 1), ('b', 1), ('c', 1))


def count_rule(bit):
    """The rule that sets a bit of the counter when all lower ones are 1, and makes these 0."""
    table, column = 'tuw'[bit // 3], 'cba'[bit % 3]
    lower = 'cba'[:bit % 3]
    own = sorted([(c, 1) for c in lower] + [(column, 0)])
    sets = tuple(sorted([(c, 0) for c in lower] + [(column, 1)]))
    if bit < 3:
        tests = [('same', ('new', c), value) for c, value in own]
        actions = [('update', 't', (), sets)]
    else:
        tests = [('some', name, ONES) for name in 'tuw'[:bit // 3]] + [('some', table, tuple(own))]
        actions = [('update', table, (), sets)]
        actions += [('update', name, (), ZEROS) for name in ('u', 't')[2 - bit // 3:]]
    return (LETTERS[bit], 't', 'update', (), 'behind', 'row', tuple(tests), tuple(actions))


def counter(bits, pairs=()):
    """Rules that count up in a number of bits, one call within the other; the first statement begins it."""
    schema = Schema(2, [(name, ('a', 'b', 'c'), 1) for name in 'tuw'])
    return Rules(schema, [count_rule(bit) for bit in range(bits)], pairs)


def counting(number):
    """The database of a counter with a number."""
    digits = [number >> at & 1 for at in range(9)]
    return tuple([((digits[3 * at + 2], digits[3 * at + 1], digits[3 * at]),) for at in range(3)])


FIRST = ('update', 't', (), (('c', 1),))


def wide(many):
    """A delete of 64 rows, behind each of which so many rules have their turns."""
    schema = Schema(4, [('b', ('x', 'y', 'z'), 3), ('c', ('q',), 1)])
    rules = [(LETTERS[at], 'b', 'delete', (), 'behind', 'row', (), (('offer', 'c', (('old', 'z'),)),)) for at in range(many)]
    return Rules(schema, rules)


def idle(name, table, event, level='statement', when='behind'):
    """A rule that never fires."""
    return (name, table, event, (), when, level, (('same', 0, 1),), (('refuse',),))


def long_runs(rows, firing, still, more=()):
    """Rules and a call of a delete of rows: each of some rules behind a row writes three times.

    Behind each of these statements so many other rules have their turns. So there are
    rows * (firing + 3 * firing * still) turns, and those of more rules behind the delete.
    """
    schema = Schema(4, [('b', ('x', 'y', 'z'), 3), ('c', ('q',), 1)])
    write = ('delete', 'c', ())
    given = [(LETTERS[at], 'b', 'delete', (), 'behind', 'row', (), (write,) * 3) for at in range(firing)]
    given += [idle(LETTERS[firing + at], 'c', 'delete') for at in range(still)]
    call = (('delete', 'b', ()), (tuple(schema.rows('b')[:rows]), ()))
    return Rules(schema, given + list(more)), call


TOWER = [('insert', 't', (0, 1)), ('delete', 't', (('k', 1),)), ('delete', 'u', (('k', 1),)),
         ('update', 't', (('k', 1),), (('k', 1),)), ('update', 'u', (('k', 1),), (('k', 1),)), ('offer', 'u', (0,))]


def tower(more=(), when='behind'):
    """Rules of the small schema by which an insert into t has exactly 4,000 turns, and more of them.

    Level by level each rule writes the statement of the next one several times, or is idle, with 0.
    With when late it is the commit that has them.
    """
    given = []
    for (kind, table), writes in zip([statement[:2] for statement in TOWER], [[3], [2, 3, 0], [3, 3], [3, 3], [3], [0, 0]]):
        event = {'offer': 'insert'}.get(kind, kind)
        for many in writes:
            name, after = LETTERS[len(given)], TOWER[[one[:2] for one in TOWER].index((kind, table)):][1:2]
            time = when if event == 'insert' and table == 't' else 'behind'
            if many:
                given.append((name, table, event, (), time, 'statement', (), tuple(after * many)))
            else:
                given.append(idle(name, table, event, when=time))
    schema = Schema(2, [('t', ('k', 'v'), 1), ('u', ('k',), 1)])
    return Rules(schema, given + list(more))
