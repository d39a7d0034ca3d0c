"""Endings: the states of commits, with their ends and heights."""

from firingrules.commits import Step
from firingrules.errors import TooMany
from firingrules.searches import NONE, SHORT, Search, Spread


def ends_of(state, step, known):
    """Return the ends of a commit from a state on, whose states behind the next turn are known."""
    if step.name is None:
        return {state[0]: True}
    found = {end: True for behind in step.states for end in known[behind]}
    if step.is_refused():
        found[None] = True
    return found


class Endings:
    """The states from which commits end, and the calls that they begin.

    ends has for each state its ends, heights its height; search has the calls.
    """

    def __init__(self, rules, most):
        self.rules = rules
        self.most = most
        self.search = Search(rules, SHORT, most)
        self.ends = {}
        self.heights = {}

    def settle(self, first):
        """Settle a state and those that come behind it; return None, or the way of a run that never ends."""
        if first in self.ends:
            return None
        stack = [first]
        # For each state of the stack, states behind it that are to be settled first.
        behind = {first: []}
        while len(stack) > 0:
            if len(self.ends) + len(stack) > self.most:
                raise TooMany(self.most)
            state = stack[-1]
            if len(behind[state]) == 0:
                step, ring = self.step(state)
                if ring is not None:
                    return self.way(stack) + step.way_to_call(ring[0]) + self.search.way_through(ring)
                again = [one for one in step.states if one in behind]
                if len(again) > 0:
                    return self.way(stack + again[:1])
                behind[state].extend([one for one in step.states if one not in self.ends])
                if len(behind[state]) == 0:
                    self.put(state, step)
                    del behind[stack.pop()]
                    continue
            inner = behind[state].pop()
            if inner not in self.ends:
                stack.append(inner)
                behind[inner] = []
        return None

    def step(self, state):
        """Return the Step of a state with all calls in the table, and None or a ring of calls."""
        step = Step(self.rules, state, self.search.table, SHORT)
        unknown = [call for call in step.outcome.calls if call not in self.search.table]
        while len(unknown) > 0:
            for call in unknown:
                ring = self.search.settle(call)
                if ring is not None:
                    return (step, ring)
            step = Step(self.rules, state, self.search.table, SHORT)
            unknown = [call for call in step.outcome.calls if call not in self.search.table]
        return (step, None)

    def put(self, state, step):
        """Put a state among those that are settled, behind which all are."""
        self.ends[state] = ends_of(state, step, self.ends)
        self.heights[state] = max([self.heights[behind] + 1 for behind in step.states], default=0)

    def way(self, states):
        """Return the way of the turns that lead from each state to the next one."""
        found = []
        for at in range(len(states) - 1):
            step = Step(self.rules, states[at], self.search.table, SHORT)
            found.extend(step.way_to_state(states[at + 1]))
        return found

    def check_spread(self, first):
        """Raise TooMany if a state leads to too many calls or states, also by runs that never end."""
        spread = Spread(self.rules, self.search.table, self.most)
        found = {state: True for state in self.ends}
        todo = [first]
        while len(todo) > 0:
            state = todo.pop()
            if state not in found:
                found[state] = True
                if len(found) > self.most:
                    raise TooMany(self.most)
                todo.extend(list(self.spread_step(state, spread).states))

    def spread_step(self, state, spread):
        """Return the Step of a state with all ends of its calls."""
        step = Step(self.rules, state, spread.table, NONE)
        unknown = [call for call in step.outcome.calls if call not in spread.table]
        while len(unknown) > 0:
            spread.spread_to(unknown)
            step = Step(self.rules, state, spread.table, NONE)
            unknown = [call for call in step.outcome.calls if call not in spread.table]
        return step
