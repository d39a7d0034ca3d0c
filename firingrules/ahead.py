"""What comes of the hits of a statement by the rules that are ahead of it."""

from firingrules.errors import TooMany
from firingrules.rules import holds
from firingrules.statements import change, event_of, hits
from firingrules.terms import concerns, put, value_of

MOST_CHOICES = 4000


def touches(rule, statement):
    """Return whether the columns of a rule are touched by a statement of its event."""
    if len(rule[3]) == 0:
        return True
    return any([column in rule[3] for column, _ in statement[3]])


def is_refused_ahead(rules, statement, database):
    """Return whether a rule ahead of the whole statement refuses it."""
    for rule in rules.standing(statement[1], event_of(statement), "ahead", "statement"):
        if touches(rule, statement) and holds(rules.schema, rule, database, None, None):
            return True
    return False


def move(schema, rule, database, old, new):
    """Return what comes of the new row by the turn of a rule, as turned tells it."""
    columns = schema.columns(rule[1])
    if not concerns(columns, rule[3], old, new) or not holds(schema, rule, database, old, new):
        return ("done", new)
    row = new
    for action in rule[7]:
        if action[0] == "skip":
            return ("passed", None)
        if action[0] == "refuse":
            return ("refused", None)
        row = put(columns, row, ((action[1], value_of(columns, action[2], old, row)),))
    return ("done", row)


def all_moves(schema, standing, database, hit):
    """Return, for each row that may come of a hit, the list of what each rule makes of it."""
    old, new = hit
    moves = {}
    todo = [new]
    while len(todo) > 0:
        row = todo.pop()
        if row not in moves:
            moves[row] = [move(schema, rule, database, old, row) for rule in standing]
            todo.extend([after for word, after in moves[row] if word == "done"])
    return moves


def acting(moves, standing):
    """Return the indexes of the rules that do something to one of the rows."""
    return [at for at in range(len(standing)) if any([moves[row][at] != ("done", row) for row in moves])]


def walk(moves, needs, start):
    """Return the ascending list of all that comes of a row when rules have one turn each.

    needs has the indexes of these rules, and for each the set of those that go
    ahead of it. A set of indexes is an integer in which their bits are 1.
    """
    full = sum([1 << at for at in needs])
    reached = {0: {start: True}}
    found = {}
    # A turn makes the set of those that have had theirs a greater integer.
    for had in range(full):
        if had not in reached:
            continue
        free = [at for at in needs if had & (1 << at) == 0 and had & needs[at] == needs[at]]
        for new in list(reached[had]):
            for at in free:
                word, row = moves[new][at]
                if word == "done":
                    reached.setdefault(had | (1 << at), {})[row] = True
                else:
                    found[(word, None)] = True
    for new in reached.get(full, {}):
        found[("done", new)] = True
    return sorted(found)


def turned(rules, statement, database, hit):
    """Return the ascending list of all that can come of a hit by the rules ahead of rows."""
    standing = rules.standing(statement[1], event_of(statement), "ahead", "row")
    moves = all_moves(rules.schema, standing, database, hit)
    # Rules that never act may be left out: the others keep their order, as it is closed.
    places = acting(moves, standing)
    needs = {}
    for at in places:
        earlier = [one for one in places if rules.goes_ahead(standing[one][0], standing[at][0])]
        needs[at] = sum([1 << one for one in earlier])
    return walk(moves, needs, hit[1])


def all_turned(rules, statement, database, found):
    """Return the list of what turned returns for each hit; raise TooMany for too many choices."""
    choices = []
    many = 1
    for hit in found:
        choices.append(turned(rules, statement, database, hit))
        many *= len(choices[-1])
        # Nothing makes the product less again, so the other hits need not be turned.
        if many > MOST_CHOICES:
            raise TooMany(MOST_CHOICES)
    return choices


def is_change(schema, statement, database, old, new):
    """Return whether a hit as turned changes a row, as far as itself tells."""
    kind, table = statement[:2]
    if kind == "update":
        return new != old
    if kind != "offer":
        return True
    count = schema.key_count(table)
    content = database[schema.names.index(table)]
    return not any([row[:count] == new[:count] for row in content])


def parts_of(schema, statement, database, old, outcomes):
    """Return the different parts, of one hit or none, that outcomes of a hit give changed."""
    parts = {}
    for word, new in outcomes:
        if word == "done" and is_change(schema, statement, database, old, new):
            parts[((old, new),)] = True
        elif word != "refused":
            parts[()] = True
    return list(parts)


def changes(rules, statement, database):
    """Return the list of all tuples (changed, database) that can come of a statement."""
    if is_refused_ahead(rules, statement, database):
        return [(None, None)]
    schema = rules.schema
    found = hits(schema, statement, database)
    choices = all_turned(rules, statement, database, found)
    refused = any([("refused", None) in outcomes for outcomes in choices])
    all_changed = [()]
    for hit, outcomes in zip(found, choices):
        parts = parts_of(schema, statement, database, hit[0], outcomes)
        all_changed = [changed + part for changed in all_changed for part in parts]
    told = []
    for changed in sorted(all_changed):
        behind = change(schema, statement[1], database, changed)
        if behind is None:
            refused = True
        else:
            told.append((changed, behind))
    return [(None, None)] + told if refused else told
