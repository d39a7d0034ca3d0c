"""Notation: statements and rules as texts."""

from firingrules.errors import NoText
from firingrules.rules import is_rule
from firingrules.statements import is_statement
from firingrules.words import is_integer

# There are at most four values, so each is written as one digit.
DIGITS = {"0": 0, "1": 1, "2": 2, "3": 3}


def term_word(term):
    """Return the word of a term."""
    return str(term) if is_integer(term) else term[0] + "." + term[1]


def words_of_pairs(pairs):
    """Return the list of the words of pairs (column, term)."""
    return [column + "=" + term_word(term) for column, term in pairs]


def words_of_statement(statement):
    """Return the list of the words of a statement, also with terms in the place of values."""
    kind, table, rest = statement[:3]
    if kind in ("insert", "offer"):
        return [kind, table] + [term_word(term) for term in rest]
    found = [kind, table] + words_of_pairs(rest)
    if kind == "update":
        found.extend(["set"] + words_of_pairs(statement[3]))
    return found


def words_of_test(test):
    """Return the list of the words of a test."""
    word, one, other = test
    if word in ("same", "other"):
        return [word, term_word(one), term_word(other)]
    return [word, one] + words_of_pairs(other)


def words_of_action(action):
    """Return the list of the words of an action."""
    if len(action) == 1:
        return [action[0]]
    if action[0] == "turn":
        return ["turn", action[1], term_word(action[2])]
    return words_of_statement(action)


def show_statement(statement):
    """Return the text of a statement."""
    return " ".join(words_of_statement(statement))


def show_rule(rule):
    """Return the text of a rule."""
    name, table, event, columns, when, level, condition, actions = rule
    head = ["rule", name, event, table]
    if len(columns) > 0:
        head.extend(["of"] + list(columns))
    lines = [head + [when, level]]
    lines.extend([["if"] + words_of_test(test) for test in condition])
    lines.extend([["do"] + words_of_action(action) for action in actions])
    return "; ".join([" ".join(line) for line in lines])


# What a text writes is first read without a look at whether it may stand there:
# a word that writes nothing is taken for itself, and then nothing good comes of it.


def read_term(word):
    """Return the term of a word."""
    if word in DIGITS:
        return DIGITS[word]
    one, point, column = word.partition(".")
    return (one, column) if point == "." else word


def read_pairs(words):
    """Return the pairs of some words."""
    parts = [word.partition("=") for word in words]
    return tuple([(column, read_term(term)) for column, _, term in parts])


def read_writing(words):
    """Return the statement of some words, also with terms in the place of values, or None."""
    if len(words) < 2:
        return None
    kind, table, rest = words[0], words[1], words[2:]
    if kind in ("insert", "offer"):
        return (kind, table, tuple([read_term(word) for word in rest]))
    if kind == "delete":
        return (kind, table, read_pairs(rest))
    if kind != "update" or "set" not in rest:
        return None
    at = rest.index("set")
    return (kind, table, read_pairs(rest[:at]), read_pairs(rest[at + 1:]))


def read_test(words):
    """Return the test of some words, or None."""
    if len(words) < 2:
        return None
    if words[0] in ("same", "other"):
        return (words[0],) + tuple([read_term(word) for word in words[1:]])
    return (words[0], words[1], read_pairs(words[2:]))


def read_action(words):
    """Return the action of some words, or None."""
    if len(words) == 1:
        return (words[0],)
    if words[:1] == ["turn"]:
        return tuple(words[:2]) + tuple([read_term(word) for word in words[2:]])
    return read_writing(words)


def read_lines(lines):
    """Return the rule of lists of words, or None."""
    head = lines[0]
    if len(head) < 6:
        return None
    tests = tuple([read_test(line[1:]) for line in lines[1:] if line[0] == "if"])
    actions = tuple([read_action(line[1:]) for line in lines[1:] if line[0] == "do"])
    return (head[1], head[3], head[2], tuple(head[5:-2]), head[-2], head[-1], tests, actions)


def read_statement(schema, text):
    """Return the statement of a schema that a text writes."""
    if isinstance(text, str):
        found = read_writing(text.split(" "))
        # Only what is shown as this text, to the letter, is what it writes.
        if is_statement(schema, found) and show_statement(found) == text:
            return found
    raise NoText()


def read_rule(schema, text):
    """Return the rule of a schema that a text writes."""
    if isinstance(text, str):
        found = read_lines([line.split(" ") for line in text.split("; ")])
        if is_rule(schema, found) and show_rule(found) == text:
            return found
    raise NoText()
