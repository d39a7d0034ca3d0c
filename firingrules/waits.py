"""What late rules wait for, in the states of a commit."""

from firingrules.terms import concerns


def late_rules(rules):
    """Return the list of the late rules, in their order."""
    return [rule for rule in rules.rules if rule[4] == "late"]


def first_state(rules, beginning, now):
    """Return the first state of a commit."""
    names = rules.schema.names
    return (now, tuple([beginning[names.index(rule[1])] for rule in late_rules(rules)]))


def differing(schema, table, one, other):
    """Return the difference of two contents of a table."""
    count = schema.key_count(table)
    old_of = {row[:count]: row for row in one}
    new_of = {row[:count]: row for row in other}
    keys = sorted({row[:count] for row in one + other})
    found = [(old_of.get(key), new_of.get(key)) for key in keys]
    return [(old, new) for old, new in found if old != new]


def is_waited_for(schema, rule, old, new):
    """Return whether a tuple of a difference is one for which a late rule waits."""
    if rule[2] == "insert":
        return old is None
    if rule[2] == "delete":
        return new is None
    return old is not None and new is not None and concerns(schema.columns(rule[1]), rule[3], old, new)


def waited_for(rules, state, at):
    """Return the list of the tuples for which the late rule at an index waits."""
    rule = late_rules(rules)[at]
    content = state[0][rules.schema.names.index(rule[1])]
    found = differing(rules.schema, rule[1], state[1][at], content)
    return [(old, new) for old, new in found if is_waited_for(rules.schema, rule, old, new)]


def all_waiting(rules, state):
    """Return the list of the indexes of the late rules that wait."""
    return [at for at in range(len(state[1])) if len(waited_for(rules, state, at)) > 0]


def looks(rules, state, at):
    """Return the list of the tuples at which the late rule at an index looks in its turn."""
    if late_rules(rules)[at][5] == "statement":
        return [(None, None)]
    return waited_for(rules, state, at)


def bases_behind(rules, state, at):
    """Return the bases when the late rule at an index has its turn."""
    now, bases = state
    content = now[rules.schema.names.index(late_rules(rules)[at][1])]
    return bases[:at] + (content,) + bases[at + 1:]
