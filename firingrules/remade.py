"""Rules remade: a rule split into several ones, and one with another time."""

from firingrules.errors import BadRule, NoRule, TooMany, Twice
from firingrules.ruleset import MOST_RULES, Rules


def place_of(rules, name, whens):
    """Return the index of a rule whose time is one of these."""
    if name not in rules:
        raise NoRule(name)
    at = rules.names.index(name)
    if rules.rules[at][4] not in whens:
        raise BadRule(at)
    return at


def pairs_of_parts(pairs, name, names):
    """Return the pairs in which the names of the parts stand in the place of the name of a rule."""
    found = []
    for one, other in pairs:
        ones = names if one == name else [one]
        others = names if other == name else [other]
        found.extend([(first, second) for first in ones for second in others])
    return found


def split(rules, name, names):
    """Return the Rules in which a rule that is behind stands as several rules, with one of its actions each."""
    at = place_of(rules, name, ("behind",))
    if len(rules) - 1 + len(names) > MOST_RULES:
        raise TooMany(MOST_RULES)
    for part in names:
        if part in rules and part != name:
            raise Twice(part)
    rule = rules.rules[at]
    parts = [(part,) + rule[1:7] + ((action,),) for part, action in zip(names, rule[7])]
    line = list(zip(names, names[1:]))
    given = rules.rules[:at] + tuple(parts) + rules.rules[at + 1:]
    return Rules(rules.schema, given, pairs_of_parts(rules.pairs, name, names) + line)


def timed(rules, name, when):
    """Return the Rules in which a rule that is behind or late has this time."""
    at = place_of(rules, name, ("behind", "late"))
    rule = rules.rules[at]
    given = rules.rules[:at] + (rule[:4] + (when,) + rule[5:],) + rules.rules[at + 1:]
    pairs = rules.pairs
    if when == "late":
        pairs = [pair for pair in pairs if name not in pair]
    return Rules(rules.schema, given, pairs)
