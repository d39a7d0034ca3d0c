"""Places: rules that have one turn each, in any order that the order allows.

A state is what turns change: the new row at a place ahead of a row, the database
at one behind. A state has a weight, the greatest that ways to it have; what a
turn weighs is told by the source of the turns of a place.
"""


def keep(found, thing, weight, way):
    """Keep the way to a thing, unless one that weighs as much is known."""
    if thing not in found or found[thing][0] < weight:
        found[thing] = (weight, way)


def weigh(worth, fires):
    """Return what a turn weighs by itself; worth tells what each turn takes away, and what each firing adds."""
    return worth[1] - worth[0] if fires else 0 - worth[0]


class Turn:
    """What may come of the turn of a rule in one state.

    goes has the states behind it, stops the words of what ends the place, each
    with a tuple of the weight and the calls within, as pairs (call, end); calls
    has the calls that begin, each with those pairs ahead of it.
    """

    def __init__(self, fires):
        self.fires = fires
        self.goes = {}
        self.stops = {}
        self.calls = {}


class Place:
    """The rules at a place, with all of their turns that were asked for."""

    def __init__(self, rules, standing, source):
        self.names = [rule[0] for rule in standing]
        self.source = source
        self.earlier = [[] for _ in standing]
        self.later = [[] for _ in standing]
        for at, one in enumerate(self.names):
            for to, other in enumerate(self.names):
                if rules.goes_ahead(one, other):
                    self.earlier[to].append(at)
                    self.later[at].append(to)
        self.turns = [{} for _ in standing]

    def turn(self, at, state):
        """Return what may come of the turn of the rule at an index, in a state."""
        if state not in self.turns[at]:
            self.turns[at][state] = self.source.turn(at, state)
        return self.turns[at][state]

    def told(self, at, within):
        """Return the list of a turn: the name of the rule, and the calls within."""
        return [self.names[at]] + list(within)


class Tour:
    """All ways through a place that begin with some states, each of a weight.

    Only the rules that act in some state are told apart by when they have their
    turn: the others are idle, which is to say that they leave each state, and add the
    same weight, wherever they have it. As the order is closed, they can always be put
    between the others. A moment is a tuple (had, state): had is the set of the acting
    rules that have had their turn, an integer in which their bits are 1.
    """

    def __init__(self, place, starts):
        self.place = place
        self.starts = starts
        self.acting = []
        self.explore()
        more = self.others_that_act()
        while len(more) > 0:
            self.acting = self.acting + more
            self.explore()
            more = self.others_that_act()
        self.idle = self.idle_weights()

    def explore(self):
        """Find, for each set, its states with their weights and the moments and turns ahead of them."""
        self.bit = {at: 1 << one for one, at in enumerate(self.acting)}
        self.full = (1 << len(self.acting)) - 1
        self.needs = [self.bits(earlier) for earlier in self.place.earlier]
        self.blocks = [self.bits([at] + later) for at, later in enumerate(self.place.later)]
        self.layers = {0: {state: (self.starts[state], None) for state in self.starts}}
        self.quiet = {}
        # A turn makes the set a greater integer.
        for had in range(self.full):
            if had in self.layers:
                rest = self.rest(had)
                for state in list(self.layers[had]):
                    self.go_on(had, state, rest)

    def bits(self, places):
        """Return the set of those of the indexes whose rules act."""
        return sum([self.bit[at] for at in places if at in self.bit])

    def rest(self, had):
        """Return the list of the acting rules that have not had their turn, in an order that is allowed."""
        found = [(len(self.place.earlier[at]), at) for at in self.acting if had & self.bit[at] == 0]
        return [at for _, at in sorted(found)]

    def go_on(self, had, state, rest):
        """Let each of the others that may have its turn next have it; or all at once, if none changes anything."""
        weight, _ = self.layers[had][state]
        if self.all_leave(rest, state):
            self.quiet[(had, state)] = True
            weight += sum([self.place.turn(at, state).goes[state][0] for at in rest])
            keep(self.layers.setdefault(self.full, {}), state, weight, (had, state, rest))
            return
        for at in rest:
            if had & self.needs[at] == self.needs[at]:
                goes = self.place.turn(at, state).goes
                found = self.layers.setdefault(had | self.bit[at], {})
                for behind in goes:
                    keep(found, behind, weight + goes[behind][0], (had, state, [at]))

    def leaves(self, at, state):
        """Return whether the turn of a rule leaves a state as it is."""
        turn = self.place.turn(at, state)
        return len(turn.stops) == 0 and len(turn.goes) == 1 and state in turn.goes

    def all_leave(self, rules, state):
        """Return whether the turns of all of some rules leave a state as it is."""
        for at in rules:
            if not self.leaves(at, state):
                return False
        return True

    def all_states(self):
        """Return the list of all states, each once."""
        found = {state: True for had in self.layers for state in self.layers[had]}
        return list(found)

    def others(self):
        """Return the list of the indexes of the rules that are not known to act."""
        return [at for at in range(len(self.place.names)) if at not in self.bit]

    def others_that_act(self):
        """Return the list of the indexes of the rules that act, beyond those that are known to."""
        states = self.all_states()
        return [at for at in self.others() if not self.is_idle(at, states)]

    def is_idle(self, at, states):
        """Return whether a rule leaves each of the states as it is, and weighs the same in all."""
        if not all([self.leaves(at, state) for state in states]):
            return False
        return len({self.place.turn(at, state).goes[state][0] for state in states}) <= 1

    def idle_weights(self):
        """Return, for the index of each idle rule, what its turn weighs."""
        weights = {}
        for state in self.all_states()[:1]:
            for at in self.others():
                weights[at] = self.place.turn(at, state).goes[state][0]
        return weights

    def idle_weight(self, had):
        """Return what the idle rules weigh that may have had their turn with a set."""
        return sum([self.idle[at] for at in self.idle if had & self.needs[at] == self.needs[at]])

    def last_states(self):
        """Return the states behind the place, with their weights."""
        last = self.layers.get(self.full, {})
        more = self.idle_weight(self.full)
        return {state: last[state][0] + more for state in last}

    def moments(self):
        """Return the list of all moments at which a rule may have its turn, with its index.

        Where nothing is changed any more, a rule may have its turn between the others.
        """
        found = []
        for had in self.layers:
            free = [at for at in range(len(self.needs)) if had & self.blocks[at] == 0]
            ready = [at for at in free if had & self.needs[at] == self.needs[at]]
            for state in self.layers[had]:
                rules = free if (had, state) in self.quiet else ready
                found.extend([(had, state, at) for at in rules])
        return found

    def some_moments(self):
        """Return the list of moments, with one for each rule and each state in which it may have its turn."""
        found = {}
        for had, state, at in self.moments():
            found[(state, at)] = had
        return [(found[(state, at)], state, at) for state, at in found]

    def all_stops(self):
        """Return, for each word that ends the place, the weight and the turn (had, state, index)."""
        found = {}
        states = self.all_states()
        stopping = {at: True for at in self.acting for state in states if len(self.place.turn(at, state).stops) > 0}
        if len(stopping) == 0:
            return {}
        for had, state, at in self.moments():
            if at in stopping:
                weight = self.layers[had][state][0] + self.idle_weight(had)
                stops = self.place.turn(at, state).stops
                for word in stops:
                    keep(found, word, weight + stops[word][0], (had, state, at))
        return found

    def acts_up_to(self, had, state):
        """Return the first state of the way to a moment, and the list of its turns (index, state, state behind)."""
        acts = []
        _, back = self.layers[had][state]
        while back is not None:
            had, before, turns = back
            acts.extend([(at, before, state) for at in reversed(list(turns))])
            state = before
            _, back = self.layers[had][state]
        acts.reverse()
        return (state, acts)

    def told(self, at, state, behind):
        """Return the list of a turn that leads from one state to another: the name, and the calls within."""
        return self.place.told(at, self.place.turn(at, state).goes[behind][1])

    def fill(self, told, done, state, rules):
        """Let those of some rules have their turns, which leave the state, that may have them now."""
        free = self.ready(done, rules)
        while len(free) > 0:
            for at in free:
                done[at] = True
                told.extend(self.told(at, state, state))
            free = self.ready(done, rules)

    def ready(self, done, rules):
        """Return those of some rules that may have their turn when others have had theirs."""
        rest = [at for at in rules if at not in done]
        return [at for at in rest if all([one in done for one in self.place.earlier[at]])]

    def way(self, had, state, but):
        """Return the first state of the way to a moment, and the list of its turns.

        Idle rules have their turns as early as they may; one rule has none.
        """
        first, acts = self.acts_up_to(had, state)
        idle = [at for at in self.idle if at != but]
        told, done = [], {}
        self.fill(told, done, first, idle)
        for at, before, behind in acts:
            told.extend(self.told(at, before, behind))
            done[at] = True
            self.fill(told, done, behind, idle)
        if (had, state) in self.quiet:
            self.fill(told, done, state, idle + [at for at in self.rest(had) if at != but])
        return (first, told)

    def way_to_end(self, state):
        """Return the first state, and the turns of the way to a state behind the place."""
        return self.way(self.full, state, None)

    def way_to_turn(self, moment):
        """Return the first state, and the turns up to the one of a moment, without what is done in it."""
        had, state, at = moment
        first, told = self.way(had, state, at)
        return (first, told + [self.place.names[at]])

    def way_to_stop(self, moment, word):
        """Return the first state, and the turns up to the one that ends the place with a word."""
        _, state, at = moment
        first, told = self.way_to_turn(moment)
        return (first, told + list(self.place.turn(at, state).stops[word][1]))

    def way_to_call(self, moment, call):
        """Return the first state, and the turns up to the beginning of a call."""
        _, state, at = moment
        first, told = self.way_to_turn(moment)
        return (first, told + list(self.place.turn(at, state).calls[call]))
