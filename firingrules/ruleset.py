"""Sets of rules with an order."""

from firingrules.errors import BadPair, BadRule, NoRule, Ring, TooMany, Wrong
from firingrules.orderings import closed, least_ring
from firingrules.rules import is_rule
from firingrules.schemas import Schema
from firingrules.words import check_different, is_name

MOST_RULES = 12
MOST_PAIRS = 200


def check_rules(schema, rules):
    """Raise BadRule or Twice for the first rule that is not as described."""
    for at, rule in enumerate(rules):
        if not is_rule(schema, rule):
            raise BadRule(at)
    check_different([rule[0] for rule in rules])


def compete(one, other):
    """Return whether two rules compete."""
    if one[0] == other[0] or one[4] == "late" or one[4:6] == ("ahead", "statement"):
        return False
    return one[1:3] == other[1:3] and one[4:6] == other[4:6]


def is_pair(rule_of, thing):
    """Return whether thing is a pair of the names of two competing rules."""
    if not isinstance(thing, tuple) or len(thing) != 2:
        return False
    if not all([is_name(name) and name in rule_of for name in thing]):
        return False
    return compete(rule_of[thing[0]], rule_of[thing[1]])


def check_pairs(rule_of, pairs):
    """Raise BadPair for the first item that is not a pair of competing rules."""
    for at, pair in enumerate(pairs):
        if not is_pair(rule_of, pair):
            raise BadPair(at)


def check_ring(pairs):
    """Raise Ring if the pairs have a ring."""
    ring = least_ring(pairs)
    if ring is not None:
        raise Ring(ring)


class Rules:
    """Rules of a schema, and pairs that tell which rule goes ahead of which."""

    def __init__(self, schema, rules, pairs=()):
        if not isinstance(schema, Schema):
            raise Wrong(0)
        if not isinstance(rules, (list, tuple)) or len(rules) > MOST_RULES:
            raise Wrong(1)
        if not isinstance(pairs, (list, tuple)) or len(pairs) > MOST_PAIRS:
            raise Wrong(2)
        check_rules(schema, rules)
        self._rule_of = {rule[0]: rule for rule in rules}
        check_pairs(self._rule_of, pairs)
        check_ring(pairs)
        self.schema = schema
        self.rules = tuple(rules)
        self.names = tuple([rule[0] for rule in rules])
        self._order = {pair: True for pair in closed(pairs)}

    def __eq__(self, other):
        return (isinstance(other, Rules) and self.schema == other.schema
                and self.rules == other.rules and self.pairs == other.pairs)

    def __len__(self):
        return len(self.rules)

    def __iter__(self):
        raise TypeError("Rules are not iterated over")

    def __contains__(self, x):
        return is_name(x) and x in self._rule_of

    def __getitem__(self, at):
        if at not in self:
            raise NoRule(at)
        return self._rule_of[at]

    def __sub__(self, other):
        if other not in self:
            raise NoRule(other)
        rest = [rule for rule in self.rules if rule[0] != other]
        return Rules(self.schema, rest, [pair for pair in self.pairs if other not in pair])

    def __add__(self, other):
        if len(self.rules) == MOST_RULES:
            raise TooMany(MOST_RULES)
        return Rules(self.schema, list(self.rules) + [other], self.pairs)

    @property
    def pairs(self):
        """The ascending list of all pairs of the order."""
        return list(self._order)

    def goes_ahead(self, one, other):
        """Return whether the order puts one rule, by its name, ahead of the other."""
        return (one, other) in self._order

    def standing(self, table, event, when, level):
        """Return the list of the rules of this table, event, time and level, in their order."""
        return [rule for rule in self.rules if rule[1:3] + rule[4:6] == (table, event, when, level)]

    def ordered(self, pairs):
        """Return the Rules with these pairs more."""
        check_pairs(self._rule_of, pairs)
        together = self.pairs + list(pairs)
        check_ring(together)
        return Rules(self.schema, self.rules, closed(together))

    def by_name(self):
        """Return the Rules with the rules in ascending order of their names."""
        # No two rules have the same name, so nothing behind the names is compared.
        return Rules(self.schema, sorted(self.rules), self.pairs)

    def competing(self):
        """Return the ascending list of all pairs of names of competing rules, in both orders."""
        return sorted([(one[0], other[0]) for one in self.rules for other in self.rules if compete(one, other)])
