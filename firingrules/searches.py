"""Searches: tables of calls that grow, and the turn lists of what they tell."""

from firingrules.errors import TooMany
from firingrules.walks import Walk, ascending

MOST_TURNS = 4000
# What each turn takes away from a weight, and what each firing adds (see places.weigh):
# the best way to an end is one with the fewest turns, or one with the most firings.
SHORT = (1, 0)
FIRINGS = (0, 1)
NONE = (0, 0)


def weights_of(walk):
    """Return, for each end of an explored walk, its weight."""
    return {end: walk.ends[end][0] for end in walk.ends}


class Lists:
    """The turn lists of ways, by the walks of the calls of a table."""

    def __init__(self, rules, table, worth):
        self.rules = rules
        self.table = table
        self.worth = worth
        self.walks = {}

    def walk(self, call):
        """Return the explored walk of a call."""
        if call not in self.walks:
            self.walks[call] = Walk(self.rules, call, self.worth)
            self.walks[call].explore(self.table)
        return self.walks[call]

    def turn_list(self, way):
        """Return the turn list of a way, with the turns in the calls within."""
        found = []
        todo = list(way)
        todo.reverse()
        while len(todo) > 0:
            told = todo.pop()
            if isinstance(told, str):
                found.append(told)
                if len(found) > MOST_TURNS:
                    raise TooMany(MOST_TURNS)
            else:
                call, end = told
                within = self.walk(call).way_to_end(end)
                within.reverse()
                todo.extend(within)
        return found


class Search:
    """A table of calls whose runs all end: some starts and the calls to which their runs come.

    table has for each call its ends with their weights, heights its least height.
    """

    def __init__(self, rules, worth, most):
        self.rules = rules
        self.worth = worth
        self.most = most
        self.table = {}
        self.heights = {}
        self.walks = {}

    def settle(self, start):
        """Put a start and the calls to which its runs come into the table, or return a ring.

        A ring is a list of calls, from the start on, each of which begins within the
        one ahead of it; the last one is one of the others, too.
        """
        if start in self.table:
            return None
        stack = [start]
        # For each call of the stack, calls within it that are to be settled first.
        within = {start: []}
        while len(stack) > 0:
            if len(self.table) + len(stack) > self.most:
                raise TooMany(self.most)
            todo = within[stack[-1]]
            if len(todo) == 0:
                todo.extend(self.unknown(stack[-1]))
                again = [inner for inner in todo if inner in within]
                if len(again) > 0:
                    return stack + again[:1]
            if len(todo) == 0:
                self.put(stack[-1])
                del within[stack.pop()]
            else:
                inner = todo.pop()
                if inner not in self.table:
                    stack.append(inner)
                    within[inner] = []
        return None

    def settle_all(self, starts):
        """Put starts into the table, one after another; return the first one from which some run never ends.

        It is returned with the turn list of such a run, or None if all runs end.
        """
        for start in starts:
            ring = self.settle(start)
            if ring is not None:
                Spread(self.rules, self.table, self.most).spread_to([start])
                return start + (self.turns_of(self.way_through(ring)),)
        return None

    def unknown(self, call):
        """Return the calls within a call, as far as the table tells, that are not in the table."""
        if call not in self.walks:
            self.walks[call] = Walk(self.rules, call, self.worth)
        self.walks[call].explore(self.table)
        return [inner for inner in self.walks[call].calls if inner not in self.table]

    def put(self, call):
        """Put a call into the table whose calls within are all there."""
        walk = self.walks[call]
        self.table[call] = weights_of(walk)
        self.heights[call] = max([self.heights[inner] + 1 for inner in walk.calls], default=0)
        del self.walks[call]

    def rows(self):
        """Return the ascending list of the rows of the table."""
        return [call + (ascending(self.table[call]), self.heights[call]) for call in sorted(self.table)]

    def turns_to_two_ends(self, call):
        """Return the turn lists of two runs of a call of the table that have different ends."""
        weights = self.table[call]
        ends = ascending(weights)
        best = sorted([(-weights[end], at) for at, end in enumerate(ends)])
        lists = Lists(self.rules, self.table, self.worth)
        return tuple([lists.turn_list([(call, ends[at])]) for _, at in best[:2]])

    def way_through(self, calls):
        """Return the way by which calls begin, each within the one ahead of it, up to the last one."""
        lists = Lists(self.rules, self.table, self.worth)
        way = []
        for at in range(len(calls) - 1):
            way.extend(lists.walk(calls[at]).way_to_call(calls[at + 1]))
        return way

    def turns_of(self, way):
        """Return the turn list of a way, whose calls are in the table."""
        return Lists(self.rules, self.table, self.worth).turn_list(way)


class Spread:
    """All calls to which runs come, also those that never end, with their ends.

    A run may also come to what stands behind a call within itself, if that has an end;
    so the ends are put together until there is none more.
    """

    def __init__(self, rules, table, most):
        self.rules = rules
        self.known = table
        self.most = most
        self.table = {call: table[call] for call in table}
        self.walks = {}
        self.callers = {}

    def spread_to(self, calls):
        """Find all calls to which runs from these calls come."""
        todo = list(calls)
        while len(todo) > 0:
            call = todo.pop()
            if call not in self.walks:
                self.begin(call)
            walk = self.walks[call]
            walk.explore(self.table)
            for inner in walk.calls:
                if inner not in self.known:
                    self.callers.setdefault(inner, {})[call] = True
            todo.extend([inner for inner in walk.calls if inner not in self.table])
            if len(walk.ends) > len(self.table[call]):
                self.table[call] = weights_of(walk)
                todo.extend(list(self.callers.get(call, {})))

    def begin(self, call):
        """Put a call into the table that has no ends as yet."""
        if len(self.table) == self.most:
            raise TooMany(self.most)
        self.walks[call] = Walk(self.rules, call, NONE)
        self.table[call] = {}
