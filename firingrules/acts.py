"""What rules write in their turns, by all ends that the calls within may have.

Ends are told by a table: a dict from calls to dicts from their ends to weights.
"""

from firingrules.places import Turn, keep, weigh
from firingrules.rules import holds, statement_of

REFUSAL = "refused"


def do_action(turn, states, statement, table):
    """Return the states behind a statement that is written in some states, and note what stops."""
    found = {}
    for state in states:
        weight, within = states[state]
        call = (statement, state)
        if call not in turn.calls:
            turn.calls[call] = within
        ends = table.get(call, {})
        for end in ends:
            way = within + ((call, end),)
            if end is None:
                keep(turn.stops, REFUSAL, weight + ends[end], way)
            else:
                keep(found, end, weight + ends[end], way)
    return found


def do_actions(schema, rule, old, new, turn, states, table):
    """Return the states behind the actions of a rule that fires, and note in its turn what stops."""
    for action in rule[7]:
        statement = statement_of(schema, rule, action, old, new)
        if statement is None:
            for state in states:
                keep(turn.stops, REFUSAL, states[state][0], states[state][1])
            return {}
        states = do_action(turn, states, statement, table)
    return states


class Writings:
    """The turns of rules that are behind, at a place; their states are databases."""

    def __init__(self, rules, standing, old, new, table, worth):
        self.schema = rules.schema
        self.lined = standing
        self.old = old
        self.new = new
        self.table = table
        self.worth = worth

    def turn(self, at, state):
        """Return what may come of the turn of the rule at an index, in a state."""
        rule = self.lined[at]
        turn = Turn(holds(self.schema, rule, state, self.old, self.new))
        turn.goes[state] = (weigh(self.worth, turn.fires), ())
        if turn.fires:
            turn.goes = do_actions(self.schema, rule, self.old, self.new, turn, turn.goes, self.table)
        return turn
