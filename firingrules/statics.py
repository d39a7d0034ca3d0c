"""What rules may raise, write and read, as their texts tell."""

from firingrules.orderings import least_ring
from firingrules.statements import event_of
from firingrules.words import is_integer, is_name


def writings(rule):
    """Return the list of the actions of a rule that write statements."""
    return [action for action in rule[7] if action[0] not in ("refuse", "skip", "turn")]


def columns_turned(rule):
    """Return the list of the columns that a rule turns."""
    return [action[1] for action in rule[7] if action[0] == "turn"]


def turned_in(rules, table):
    """Return the list of the columns that are turned ahead of updates of a table."""
    ahead = rules.standing(table, "update", "ahead", "row")
    return [column for rule in ahead for column in columns_turned(rule)]


def may_raise(rules, action, rule):
    """Return whether a statement that an action writes may raise a rule that is behind."""
    if action[1] != rule[1] or event_of(action) != rule[2]:
        return False
    if rule[2] != "update" or len(rule[3]) == 0:
        return True
    touched = [column for column, _ in action[3]]
    if rule[5] == "row":
        touched.extend(turned_in(rules, rule[1]))
    return any([column in touched for column in rule[3]])


def behind(rules):
    """Return the list of the rules that are behind."""
    return [rule for rule in rules.rules if rule[4] == "behind"]


def raised(rules, name):
    """Return the ascending list of the names of the rules that a rule may raise."""
    actions = writings(rules[name])
    found = [rule for rule in behind(rules) if any([may_raise(rules, action, rule) for action in actions])]
    return sorted([rule[0] for rule in found])


def raisings(rules):
    """Return, for the name of each rule that is behind, what raised returns."""
    return {rule[0]: raised(rules, rule[0]) for rule in behind(rules)}


def levels(rules):
    """Return the level of each rule that is behind, or the least ring of such rules."""
    raised_by = raisings(rules)
    ring = least_ring([(name, other) for name in raised_by for other in raised_by[name]])
    if ring is not None:
        return ("ring", ring)
    level = {}
    while len(level) < len(raised_by):
        for name in raised_by:
            if all([other in level for other in raised_by[name]]):
                level[name] = max([level[other] + 1 for other in raised_by[name]], default=0)
    return ("levels", [(name, level[name]) for name in sorted(level)])


def is_level(thing):
    """Return whether thing is a tuple of a name and an integer from 0 on."""
    if not isinstance(thing, tuple) or len(thing) != 2:
        return False
    return is_name(thing[0]) and is_integer(thing[1]) and thing[1] >= 0


def is_levels(rules, thing):
    """Return whether thing is a list of levels, one for each rule that is behind."""
    if not isinstance(thing, list) or not all([is_level(row) for row in thing]):
        return False
    raised_by = raisings(rules)
    if [name for name, _ in thing] != sorted(raised_by):
        return False
    level = {name: number for name, number in thing}
    return all([level[other] < level[name] for name in raised_by for other in raised_by[name]])


def raised_by_steps(rules, name):
    """Return the list of the names of a rule and of all rules that it raises by some steps."""
    found = {name: True}
    todo = [name]
    while len(todo) > 0:
        more = [other for other in raised(rules, todo.pop()) if other not in found]
        for other in more:
            found[other] = True
        todo.extend(more)
    return list(found)


def tested(rule):
    """Return the list of the tables in the tests of a rule."""
    return [test[1] for test in rule[6] if test[0] in ("some", "no")]


def tables_of(names):
    """Return the ascending list of some names, each once."""
    return sorted({name for name in names})


def written(rules, name):
    """Return the ascending list of the tables that a rule writes, also through others."""
    names = raised_by_steps(rules, name)
    return tables_of([action[1] for other in names for action in writings(rules[other])])


def read(rules, name):
    """Return the ascending list of the tables that a rule reads, also through others."""
    tables = written(rules, name)
    ahead = [rule for rule in rules.rules if rule[4] == "ahead" and rule[1] in tables]
    found = list(tables)
    for rule in [rules[other] for other in raised_by_steps(rules, name)] + ahead:
        found.extend(tested(rule))
    if rules[name][4] == "late":
        found.append(rules[name][1])
    return tables_of(found)


def terms_of(rule):
    """Return the list of the terms in the tests and actions of a rule that is ahead."""
    found = [action[2] for action in rule[7] if action[0] == "turn"]
    for word, one, other in rule[6]:
        if word in ("same", "other"):
            found.extend([one, other])
        else:
            found.extend([term for _, term in other])
    return found


def leaves(rule, other):
    """Return whether no column that a rule turns counts in another one."""
    terms = terms_of(other)
    for column in columns_turned(rule):
        if column in columns_turned(other) or column in other[3] or ("new", column) in terms:
            return False
    return True


def has_action(rule, word):
    """Return whether a rule has this action of one word."""
    return (word,) in rule[7]


def apart(rules, one, other):
    """Return whether two competing rules, by their names, are apart."""
    first, second = rules[one], rules[other]
    if first[4] == "behind":
        pairs = ((one, other), (other, one))
        return not any([table in read(rules, far) for near, far in pairs for table in written(rules, near)])
    if has_action(first, "skip") and has_action(second, "refuse"):
        return False
    if has_action(first, "refuse") and has_action(second, "skip"):
        return False
    return leaves(first, second) and leaves(second, first)


def reach(rules, table):
    """Return the tables that statements of a table write, and those that they read, with their commit."""
    found = {table: True}
    todo = [table]
    while len(todo) > 0:
        name = todo.pop()
        active = [rule for rule in rules.rules if rule[1] == name and rule[4] != "ahead"]
        more = [action[1] for rule in active for action in writings(rule) if action[1] not in found]
        for other in more:
            found[other] = True
        todo.extend(more)
    seen = list(found)
    for rule in rules.rules:
        if rule[1] in found:
            seen.extend(tested(rule))
    return (tables_of(found), tables_of(seen))
