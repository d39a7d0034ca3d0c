"""Commits: one run of a commit, and all that may come of the turn of a late rule."""

from firingrules.acts import REFUSAL, do_actions
from firingrules.machines import ENDLESS, Machine
from firingrules.places import Turn, keep, weigh
from firingrules.rules import holds
from firingrules.waits import all_waiting, bases_behind, first_state, late_rules, looks


class Commit(Machine):
    """One run of a commit; been has the states that there have been."""

    def __init__(self, rules, beginning, now):
        Machine.__init__(self, rules, now)
        self.state = first_state(rules, beginning, now)
        self.been = {self.state: True}
        self.late = late_rules(rules)
        self.at = None
        self.looks = []

    def advance(self):
        """Go on until a turn is due, no rule waits, or the run has stopped."""
        super().advance()
        while self.stopped is None and len(self.frames) == 0 and self.at is not None:
            if len(self.looks) > 0:
                old, new = self.looks.pop(0)
                self.look(self.late[self.at], old, new, self.cause_of(old, new))
            else:
                self.come((self.database, bases_behind(self.rules, self.state, self.at)))
            super().advance()

    def cause_of(self, old, new):
        """Return the number of the step that a look names as its cause; it is told where there are steps ahead."""
        return None

    def come(self, state):
        """Come to the state behind the turn of a late rule."""
        self.state = state
        self.at = None
        if state in self.been:
            self.stopped = ENDLESS
        self.been[state] = True

    def free(self):
        """Return the list of the names of the rules that may have their turn next."""
        if self.stopped is not None or len(self.frames) > 0:
            return super().free()
        return [self.late[at][0] for at in all_waiting(self.rules, self.state)[:1]]

    def turn(self, name):
        """Let a rule that may have its turn next have it."""
        if len(self.frames) > 0:
            super().turn(name)
        else:
            self.at = all_waiting(self.rules, self.state)[0]
            self.looks = looks(self.rules, self.state, self.at)
            self.turns += 1


class Step:
    """All that may come of the next turn of a late rule in a state, by the ends of a table.

    name is the name of the rule, or None if none waits. states has for each state behind
    the turn its weight and the way to it; outcome has what stops the turn, and the calls.
    """

    def __init__(self, rules, state, table, worth):
        self.rules = rules
        self.name = None
        self.outcome = Turn(False)
        self.states = {}
        waiting = all_waiting(rules, state)
        if len(waiting) > 0:
            at = waiting[0]
            rule = late_rules(rules)[at]
            self.name = rule[0]
            found = {state[0]: (weigh(worth, False), ())}
            for old, new in looks(rules, state, at):
                found = self.look(rule, old, new, found, table)
            bases = bases_behind(rules, state, at)
            self.states = {(now, bases): found[now] for now in found}

    def look(self, rule, old, new, states, table):
        """Return the databases behind a look of the rule at a tuple of the difference."""
        found = {}
        turn = self.outcome
        for state in states:
            behind = {state: states[state]}
            if holds(self.rules.schema, rule, state, old, new):
                turn.fires = True
                behind = do_actions(self.rules.schema, rule, old, new, turn, behind, table)
            for end in behind:
                keep(found, end, behind[end][0], behind[end][1])
        return found

    def is_refused(self):
        """Return whether the turn may be refused."""
        return REFUSAL in self.outcome.stops

    def way_to_state(self, state):
        """Return the way to a state behind the turn."""
        return [self.name] + list(self.states[state][1])

    def way_to_call(self, call):
        """Return the way to the beginning of a call."""
        return [self.name] + list(self.outcome.calls[call])
