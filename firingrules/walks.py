"""Walks: all runs of one call, with ways to what they come to."""

from firingrules.acts import REFUSAL, Writings
from firingrules.ahead import Hits, is_refused_ahead, touches
from firingrules.places import Place, Tour, keep
from firingrules.statements import event_of
from firingrules.terms import concerns


def ascending(ends):
    """Return the ascending list of databases and None, which comes first."""
    databases = sorted([end for end in ends if end is not None])
    return [None] + databases if None in ends else databases


def standing_row(rules, statement, old, new):
    """Return the list of the rules that stand behind a changed row."""
    columns = rules.schema.columns(statement[1])
    found = rules.standing(statement[1], event_of(statement), "behind", "row")
    return [rule for rule in found if concerns(columns, rule[3], old, new)]


def standing_statement(rules, statement):
    """Return the list of the rules that stand behind a statement."""
    found = rules.standing(statement[1], event_of(statement), "behind", "statement")
    return [rule for rule in found if touches(rule, statement)]


class Walk:
    """All runs of a call, without those of the calls within it.

    ends has the ends, each with its weight and the way to it; calls the calls
    that begin, and fired the names of the rules that fire, each with where it does: a
    tuple (index of the hit, moment) ahead of rows, (changes, index of the place, moment)
    behind them. What they are hangs on
    the table that explore is given: it tells the ends of the calls within. A way is
    a list of names of rules, at their turns, and of pairs (call, end) within.
    """

    def __init__(self, rules, call, worth):
        self.rules = rules
        self.statement, self.database = call
        self.worth = worth
        self.found = None
        self.picks = {}
        self.bases = {}
        if not is_refused_ahead(rules, self.statement, self.database):
            self.found = Hits(rules, self.statement, self.database, worth)
            self.picks = self.found.alternatives()
            self.bases = {changed: self.found.behind(changed) for changed in self.picks}
        self.forget({})

    def forget(self, table):
        """Forget what was found with another table."""
        self.table = table
        self.places = {}
        self.ends = {}
        self.calls = {}
        self.fired = {}

    def explore(self, table):
        """Find what the runs come to, with the ends of a table."""
        self.forget(table)
        if self.found is None:
            self.ends[None] = (0, ("ahead", ()))
            return
        self.fired = self.found.fired_ahead()
        refusals = self.found.refusals()
        for at in refusals:
            keep(self.ends, None, refusals[at][0], ("ahead", refusals[at][1]))
        for changed in self.picks:
            if self.bases[changed] is None:
                weight, outcomes = self.picks[changed]
                keep(self.ends, None, weight, ("ahead", outcomes))
            else:
                self.explore_behind(changed)

    def place_behind(self, old, new):
        """Return the place behind a changed row, or without rows that behind the statement."""
        if (old, new) not in self.places:
            if old is None and new is None:
                standing = standing_statement(self.rules, self.statement)
            else:
                standing = standing_row(self.rules, self.statement, old, new)
            source = Writings(self.rules, standing, old, new, self.table, self.worth)
            self.places[(old, new)] = Place(self.rules, standing, source)
        return self.places[(old, new)]

    def tours_behind(self, changed):
        """Return the list of the tours through the places behind changes, one after another."""
        states = {self.bases[changed]: self.picks[changed][0]}
        found = []
        for old, new in changed + ((None, None),):
            found.append(Tour(self.place_behind(old, new), states))
            states = found[-1].last_states()
        return found

    def explore_behind(self, changed):
        """Find what the runs come to behind some changes."""
        tours = self.tours_behind(changed)
        for at, tour in enumerate(tours):
            stops = tour.all_stops()
            if REFUSAL in stops:
                keep(self.ends, None, stops[REFUSAL][0], ("stop", changed, at))
            for moment in tour.some_moments():
                self.note(changed, at, tour.place, moment)
        ends = tours[-1].last_states()
        for end in ends:
            keep(self.ends, end, ends[end], ("end", changed, end))

    def note(self, changed, at, place, moment):
        """Note what a turn at a place does."""
        _, state, one = moment
        turn = place.turn(one, state)
        if turn.fires:
            self.fired.setdefault(place.names[one], (changed, at, moment))
        for call in turn.calls:
            if call not in self.calls:
                self.calls[call] = (changed, at, moment)

    def way_behind(self, changed, tours, state):
        """Return the way through the places ahead of a hit, and behind by tours to a state."""
        told = []
        for at in range(len(tours) - 1, -1, -1):
            state, more = tours[at].way_to_end(state)
            told = more + told
        return self.found.way(self.picks[changed][1]) + told

    def way_to_end(self, end):
        """Return the way to an end."""
        _, told = self.ends[end]
        if told[0] == "ahead":
            return [] if self.found is None else self.found.way(told[1])
        tours = self.tours_behind(told[1])
        if told[0] == "end":
            return self.way_behind(told[1], tours, end)
        tour = tours[told[2]]
        _, moment = tour.all_stops()[REFUSAL]
        state, more = tour.way_to_stop(moment, REFUSAL)
        return self.way_behind(told[1], tours[:told[2]], state) + more

    def way_to_call(self, call):
        """Return the way to the beginning of a call."""
        changed, at, moment = self.calls[call]
        tours = self.tours_behind(changed)
        state, more = tours[at].way_to_call(moment, call)
        return self.way_behind(changed, tours[:at], state) + more

    def way_to_firing(self, name):
        """Return the way to a turn in which the rule of a name fires, without what is done in it."""
        where = self.fired[name]
        if len(where) == 2:
            return self.found.way_to_turn(where[0], where[1])
        changed, at, moment = where
        tours = self.tours_behind(changed)
        state, more = tours[at].way_to_turn(moment)
        return self.way_behind(changed, tours[:at], state) + more
