"""What comes of the hits of a statement by the rules that are ahead of it."""

from firingrules.errors import TooMany
from firingrules.places import Place, Tour, Turn, keep, weigh
from firingrules.rules import holds
from firingrules.statements import change, event_of, hits
from firingrules.terms import concerns, put, value_of

MOST_CHOICES = 4000
REFUSED = ("refused", None)


def touches(rule, statement):
    """Return whether the columns of a rule are touched by a statement of its event."""
    if len(rule[3]) == 0:
        return True
    return any([column in rule[3] for column, _ in statement[3]])


def is_refused_ahead(rules, statement, database):
    """Return whether a rule ahead of the whole statement refuses it."""
    for rule in rules.standing(statement[1], event_of(statement), "ahead", "statement"):
        if touches(rule, statement) and holds(rules.schema, rule, database, None, None):
            return True
    return False


def move(schema, rule, database, old, new):
    """Return whether a rule fires in its turn, and what comes of the new row, as turned tells it."""
    columns = schema.columns(rule[1])
    if not concerns(columns, rule[3], old, new) or not holds(schema, rule, database, old, new):
        return (False, ("done", new))
    row = new
    for action in rule[7]:
        if action[0] == "skip":
            return (True, ("passed", None))
        if action[0] == "refuse":
            return (True, REFUSED)
        row = put(columns, row, ((action[1], value_of(columns, action[2], old, row)),))
    return (True, ("done", row))


class Turnings:
    """The turns of the rules at a place ahead of a row; their states are the new row."""

    def __init__(self, rules, statement, database, old, worth):
        self.schema = rules.schema
        self.lined = rules.standing(statement[1], event_of(statement), "ahead", "row")
        self.database = database
        self.old = old
        self.worth = worth

    def turn(self, at, state):
        """Return what may come of the turn of the rule at an index, in a state."""
        fires, (word, row) = move(self.schema, self.lined[at], self.database, self.old, state)
        turn = Turn(fires)
        way = (weigh(self.worth, fires), ())
        if word == "done":
            turn.goes[row] = way
        else:
            turn.stops[word] = way
        return turn


def tour_ahead(rules, statement, database, hit, worth):
    """Return the Tour through the place ahead of a hit."""
    old, new = hit
    source = Turnings(rules, statement, database, old, worth)
    return Tour(Place(rules, source.lined, source), {new: 0})


def outcomes_of(tour):
    """Return all that can come of a hit, as turned tells it, each with its weight."""
    ends, stops = tour.last_states(), tour.all_stops()
    found = {("done", new): ends[new] for new in ends}
    for word in stops:
        found[(word, None)] = stops[word][0]
    return found


def turned(rules, statement, database, hit):
    """Return the ascending list of all that can come of a hit by the rules ahead of rows."""
    return sorted(outcomes_of(tour_ahead(rules, statement, database, hit, (0, 0))))


def is_change(schema, statement, database, old, new):
    """Return whether a hit as turned changes a row, as far as itself tells."""
    kind, table = statement[:2]
    if kind == "update":
        return new != old
    if kind != "offer":
        return True
    count = schema.key_count(table)
    content = database[schema.names.index(table)]
    return not any([row[:count] == new[:count] for row in content])


class Hits:
    """The hits of a statement, and all ways through the places ahead of them.

    worth tells what turns and firings weigh, as in weigh.
    """

    def __init__(self, rules, statement, database, worth):
        self.schema = rules.schema
        self.statement = statement
        self.database = database
        self.hits = hits(rules.schema, statement, database)
        self.tours = []
        self.outcomes = []
        many = 1
        for hit in self.hits:
            tour = tour_ahead(rules, statement, database, hit, worth)
            self.tours.append(tour)
            self.outcomes.append(outcomes_of(tour))
            many *= len(self.outcomes[-1])
            # Nothing makes the product less again, so the other hits need not be turned.
            if many > MOST_CHOICES:
                raise TooMany(MOST_CHOICES)

    def parts(self, at):
        """Return the tuples (part of changed, outcome, weight) that a hit may give, without refusals."""
        outcomes = self.outcomes[at]
        old = self.hits[at][0]
        found = []
        for word, new in outcomes:
            if word == "done" and is_change(self.schema, self.statement, self.database, old, new):
                found.append((((old, new),), (word, new), outcomes[(word, new)]))
            elif word != "refused":
                found.append(((), (word, new), outcomes[(word, new)]))
        return found

    def alternatives(self):
        """Return, for all that no rule refuses, the weight and the outcomes of each changed."""
        found = {(): (0, ())}
        for at in range(len(self.hits)):
            more = {}
            parts = self.parts(at)
            for changed in found:
                for part, outcome, weight in parts:
                    keep(more, changed + part, found[changed][0] + weight, found[changed][1] + (outcome,))
            found = more
        return found

    def behind(self, changed):
        """Return the database behind the changes, or None if keys forbid them."""
        return change(self.schema, self.statement[1], self.database, changed)

    def come(self):
        """Return the indexes of the hits to whose places runs come."""
        for at in range(len(self.hits)):
            if len(self.parts(at)) == 0:
                return list(range(at + 1))
        return list(range(len(self.hits)))

    def approaches(self):
        """Return, for each hit to which runs come, the weight and the outcomes of the hits ahead of it."""
        found = []
        weight, outcomes = 0, ()
        for at in self.come():
            found.append((weight, outcomes))
            best = {}
            for _, outcome, more in self.parts(at):
                keep(best, True, more, outcome)
            if True in best:
                weight, outcomes = weight + best[True][0], outcomes + (best[True][1],)
        return found

    def refusals(self):
        """Return, for each hit at which a rule may refuse, the weight and the outcomes up to it."""
        found = {}
        for at, (weight, outcomes) in enumerate(self.approaches()):
            if REFUSED in self.outcomes[at]:
                found[at] = (weight + self.outcomes[at][REFUSED], outcomes + (REFUSED,))
        return found

    def fired_ahead(self):
        """Return, for the name of each rule that fires ahead of hits, the index of such a hit and the moment."""
        found = {}
        for at in self.come():
            place = self.tours[at].place
            for moment in self.tours[at].some_moments():
                _, row, one = moment
                if place.turn(one, row).fires:
                    found.setdefault(place.names[one], (at, moment))
        return found

    def way_to_turn(self, at, moment):
        """Return the turns up to one ahead of a hit."""
        _, outcomes = self.approaches()[at]
        _, more = self.tours[at].way_to_turn(moment)
        return self.way(outcomes) + more

    def way(self, outcomes):
        """Return the list of the turns by which the first hits have these outcomes."""
        told = []
        for tour, (word, new) in zip(self.tours, outcomes):
            if word == "done":
                _, more = tour.way_to_end(new)
            else:
                _, moment = tour.all_stops()[word]
                _, more = tour.way_to_stop(moment, word)
            told.extend(more)
        return told


def changes(rules, statement, database):
    """Return the list of all tuples (changed, database) that can come of a statement."""
    if is_refused_ahead(rules, statement, database):
        return [(None, None)]
    found = Hits(rules, statement, database, (0, 0))
    told = [(changed, found.behind(changed)) for changed in sorted(found.alternatives())]
    kept = [(changed, behind) for changed, behind in told if behind is not None]
    refused = len(found.refusals()) > 0 or len(kept) < len(told)
    return [(None, None)] + kept if refused else kept
