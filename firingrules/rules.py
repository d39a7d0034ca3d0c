"""Rules: what is one, whether its condition holds, and what its actions write."""

from firingrules.statements import is_writing
from firingrules.terms import are_columns, are_pairs, is_term, is_word, matches, value_of, values_of
from firingrules.words import is_name

WORDS = {"insert": ("new",), "delete": ("old",), "update": ("old", "new")}
TIMES = ("ahead", "behind", "late")
LEVELS = ("row", "statement")


def is_test(schema, scope, thing):
    """Return whether thing is a test with terms of a scope."""
    if not isinstance(thing, tuple) or len(thing) != 3:
        return False
    word, one, other = thing
    if is_word(word, ("same", "other")):
        return is_term(scope, one) and is_term(scope, other)
    if not is_word(word, ("some", "no")) or one not in schema:
        return False
    return are_pairs(schema.columns(one), scope, other)


def is_turning(scope, thing):
    """Return whether a tuple is ("turn", column, term) with a term of a scope."""
    if len(thing) != 3 or not is_word(thing[0], ("turn",)):
        return False
    return is_word(thing[1], scope[2]) and is_term(scope, thing[2])


def is_action(schema, rule, scope, thing):
    """Return whether thing is an action for the event, time and level of a rule."""
    event, when, level = rule[2], rule[4], rule[5]
    if not isinstance(thing, tuple):
        return False
    if len(thing) == 1:
        skips = when == "ahead" and level == "row"
        return is_word(thing[0], ("refuse", "skip") if skips else ("refuse",))
    if when != "ahead":
        return is_writing(schema, scope, thing)
    return level == "row" and event != "delete" and is_turning(scope, thing)


def is_head(schema, thing):
    """Return whether a tuple of eight begins with the first six parts of a rule."""
    name, table, event, columns, when, level = thing[:6]
    if not is_name(name) or table not in schema or not is_word(event, ("insert", "delete", "update")):
        return False
    if not are_columns(schema.columns(table), columns) or event != "update" and len(columns) > 0:
        return False
    return is_word(when, TIMES) and is_word(level, LEVELS)


def is_rule(schema, thing):
    """Return whether thing is a rule for a schema."""
    if not isinstance(thing, tuple) or len(thing) != 8 or not is_head(schema, thing):
        return False
    condition, actions = thing[6:]
    if not isinstance(condition, tuple) or len(condition) > 4:
        return False
    if not isinstance(actions, tuple) or not 1 <= len(actions) <= 3:
        return False
    words = WORDS[thing[2]] if thing[5] == "row" else ()
    scope = (schema.size, words, schema.columns(thing[1]))
    if not all([is_test(schema, scope, test) for test in condition]):
        return False
    return all([is_action(schema, thing, scope, action) for action in actions])


def passes(schema, columns, test, database, old, new):
    """Return whether a test holds; columns are those of the rows at hand."""
    word, one, other = test
    if word in ("same", "other"):
        equal = value_of(columns, one, old, new) == value_of(columns, other, old, new)
        return equal == (word == "same")
    where = values_of(columns, other, old, new)
    content = database[schema.names.index(one)]
    found = any([matches(schema.columns(one), row, where) for row in content])
    return found == (word == "some")


def holds(schema, rule, database, old, new):
    """Return whether the condition of a rule holds."""
    columns = schema.columns(rule[1])
    return all([passes(schema, columns, test, database, old, new) for test in rule[6]])


def statement_of(schema, rule, action, old, new):
    """Return the statement that an action writes, or None if it writes none."""
    columns = schema.columns(rule[1])
    if action[0] in ("insert", "offer"):
        row = tuple([value_of(columns, term, old, new) for term in action[2]])
        return (action[0], action[1], row)
    if action[0] in ("delete", "update"):
        return action[:2] + tuple([values_of(columns, pairs, old, new) for pairs in action[2:]])
    return None
