"""What the points about conditions and rules ahead say, by the shortest way and by trying all orders."""

import itertools


def put_in(thing, rows):
    """A nested tuple with values in the place of its terms; rows is a dict of dicts."""
    if isinstance(thing, tuple) and len(thing) == 2 and thing[0] in rows and rows[thing[0]] is not None:
        return rows[thing[0]][thing[1]]
    if isinstance(thing, tuple):
        return tuple([put_in(part, rows) for part in thing])
    return thing


def rows_at_hand(schema, rule, old, new):
    """The rows at hand as dicts; columns called old or new would mislead put_in."""
    columns = schema.columns(rule[1])
    return {word: None if row is None else dict(zip(columns, row)) for word, row in (('old', old), ('new', new))}


def holds(schema, rule, database, old, new):
    """Whether the condition of a rule holds."""
    for word, one, other in put_in(rule[6], rows_at_hand(schema, rule, old, new)):
        if word in ('same', 'other'):
            good = (one == other) == (word == 'same')
        else:
            dicts = [dict(zip(schema.columns(one), row)) for row in database[schema.names.index(one)]]
            some = [row for row in dicts if all([row[column] == value for column, value in other])]
            good = bool(some) == (word == 'some')
        if not good:
            return False
    return True


def event_of(statement):
    """The event of a statement."""
    return {'offer': 'insert'}.get(statement[0], statement[0])


def standing(rules, statement, level):
    """The rules that are ahead of a statement, of a level."""
    return [rule for rule in rules.rules if rule[1:3] == (statement[1], event_of(statement))
            and rule[4:6] == ('ahead', level)]


def in_one_order(rules, order, database, old, new):
    """What comes of a hit when rules have their turns in this order."""
    schema = rules.schema
    for rule in order:
        columns = schema.columns(rule[1])
        if rule[3] and all([dict(zip(columns, old))[c] == dict(zip(columns, new))[c] for c in rule[3]]):
            continue
        if not holds(schema, rule, database, old, new):
            continue
        for action in rule[7]:
            if action == ('skip',):
                return ('passed', None)
            if action == ('refuse',):
                return ('refused', None)
            value = put_in(action[2], rows_at_hand(schema, rule, old, new))
            new = tuple([value if c == action[1] else v for c, v in zip(columns, new)])
    return ('done', new)


def turned(rules, statement, database, hit):
    """All that can come of a hit, by all orders of the rules that stand there."""
    found = set()
    for order in itertools.permutations(standing(rules, statement, 'row')):
        names = [rule[0] for rule in order]
        if all([(b, a) not in rules.pairs for a, b in itertools.combinations(names, 2)]):
            found.add(in_one_order(rules, order, database, *hit))
    return sorted(found)


def hits(schema, statement, database):
    """The hits of a statement."""
    if statement[0] in ('insert', 'offer'):
        return [(None, statement[2])]
    columns = schema.columns(statement[1])
    rows = database[schema.names.index(statement[1])]
    rows = [row for row in rows if set(statement[2]) <= set(zip(columns, row))]
    if statement[0] == 'delete':
        return [(row, None) for row in rows]
    sets = dict(statement[3])
    return [(row, tuple([sets.get(c, v) for c, v in zip(columns, row)])) for row in rows]


def changed_by(schema, statement, database, picked):
    """The tuple (changed, database) of hits with what was picked for each of them."""
    at, count = schema.names.index(statement[1]), schema.key_count(statement[1])
    if 'refused' in [word for _, (word, _) in picked]:
        return (None, None)
    changed = [(old, new) for (old, _), (word, new) in picked if word == 'done' and old != new]
    there = [row[:count] for row in database[at]]
    if statement[0] == 'offer':
        changed = [(old, new) for old, new in changed if new[:count] not in there]
    rows = [row for row in database[at] if row not in [old for old, _ in changed]]
    rows = sorted(rows + [new for _, new in changed if new is not None])
    if len({row[:count] for row in rows}) < len(rows):
        return (None, None)
    return (tuple(changed), database[:at] + (tuple(rows),) + database[at + 1:])


def changes(rules, statement, database):
    """All that can come of all hits, or None if they are too many."""
    schema = rules.schema
    for rule in standing(rules, statement, 'statement'):
        counts = not rule[3] or set(rule[3]) & set(dict(statement[3]))
        if counts and holds(schema, rule, database, None, None):
            return [(None, None)]
    found = hits(schema, statement, database)
    choices = [turned(rules, statement, database, hit) for hit in found]
    many = 1
    for outcomes in choices:
        many *= len(outcomes)
    if many > 4000:
        return None
    told = {changed_by(schema, statement, database, list(zip(found, picked))) for picked in itertools.product(*choices)}
    refused = [(None, None)] if (None, None) in told else []
    return refused + sorted(told - {(None, None)})
