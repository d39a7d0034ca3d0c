"""Whether two sets of rules do the same, in transactions and in calls."""

from firingrules.beginnings import asked, chosen, first_databases
from firingrules.errors import Endless, TooMany
from firingrules.late import commit
from firingrules.runs import run
from firingrules.searches import MOST_TURNS
from firingrules.tables import decide


class Side:
    """One of two Rules, with the ends that it has told; limit is that of runs and commits."""

    def __init__(self, rules, limit):
        self.rules = rules
        self.limit = limit
        self.ends = {}
        self.last = {}

    def end(self, statement, now):
        """Return the end of a statement."""
        call = (statement, now)
        if call not in self.ends:
            self.ends[call] = run(self.rules, statement, now, limit=self.limit)
        return self.ends[call]

    def end_of_commit(self, beginning, now):
        """Return the end of a commit."""
        pair = (beginning, now)
        if pair not in self.last:
            self.last[pair] = commit(self.rules, beginning, now, limit=self.limit)
        return self.last[pair]


class Sides:
    """Two Rules of equal schemas, with transactions that begin alike."""

    def __init__(self, one, other, limit):
        self.one = Side(one, limit)
        self.other = Side(other, limit)

    def behind(self, triple, statement):
        """Return the triple behind a statement, or None if one side alone refuses it."""
        beginning, now, there = triple
        end, other = self.one.end(statement, now), self.other.end(statement, there)
        if end is None and other is None:
            return triple
        if end is None or other is None:
            return None
        return (beginning, end, other)

    def commit_alike(self, triple):
        """Return whether the commits of both sides have the same end."""
        beginning, now, there = triple
        return self.one.end_of_commit(beginning, now) == self.other.end_of_commit(beginning, there)


def list_to(back, triple):
    """Return the list of the statements that lead to a triple; back tells the last one and the triple ahead."""
    found = []
    while back[triple] is not None:
        triple, statement = back[triple]
        found.append(statement)
    found.reverse()
    return found


class Comparison:
    """The triples that come of databases and lists of statements, up to the first list that parts the sides."""

    def __init__(self, sides, statements, most):
        self.sides = sides
        self.statements = statements
        self.most = most
        self.triples = []

    def enter(self, triple):
        """Put a triple behind the others."""
        self.triples.append(triple)
        if len(self.triples) > self.most:
            raise TooMany(self.most)

    def parting(self, database):
        """Return the least of the shortest lists that part the sides, or None if there is none."""
        first = (database, database, database)
        back = {first: None}
        at = len(self.triples)
        self.enter(first)
        # The first list to a triple is the least of the shortest ones, so others that lead to it tell nothing new.
        while at < len(self.triples):
            triple = self.triples[at]
            for statement in self.statements:
                behind = self.sides.behind(triple, statement)
                if behind not in back:
                    if behind is None or not self.sides.commit_alike(behind):
                        return list_to(back, triple) + [statement]
                    back[behind] = (triple, statement)
                    self.enter(behind)
            at += 1
        return None


def agree(one, other, statements=None, *, most=1000):
    """Return all triples if all transactions tell the same with both Rules, or the first one that does not."""
    sides = Sides(one, other, MOST_TURNS)
    comparison = Comparison(sides, chosen(one.schema, statements), most)
    # Each database gives a triple, so there is no need for more databases than are too many.
    for database in first_databases(one.schema, most + 1):
        found = comparison.parting(database)
        if found is not None:
            return ("parted", database, found)
    return ("agree", sorted(comparison.triples))


def is_triple(schema, thing):
    """Return whether thing is a tuple of three databases."""
    return isinstance(thing, tuple) and len(thing) == 3 and all([schema.is_database(part) for part in thing])


def has_beginnings(schema, triples):
    """Return whether each database is there as a beginning, behind which nothing was done."""
    if len(triples) < schema.many:
        return False
    return all([(database, database, database) in triples for database in schema.databases(most=schema.many)])


def are_alike(sides, statements, triples):
    """Return whether all that comes of triples is there, and their commits have the same ends."""
    for triple in triples:
        if not sides.commit_alike(triple):
            return False
        for statement in statements:
            if sides.behind(triple, statement) not in triples:
                return False
    return True


def is_agreement(one, other, statements, thing):
    """Return whether thing shows that all transactions of the statements tell the same with both Rules."""
    schema = one.schema
    if not isinstance(thing, list) or not all([is_triple(schema, part) for part in thing]):
        return False
    triples = {triple: True for triple in thing}
    if not has_beginnings(schema, triples):
        return False
    try:
        return are_alike(Sides(one, other, None), chosen(schema, statements), triples)
    except Endless:
        return False


def least_end(one, other):
    """Return the list of the least end that only one of two lists has, None being the least; empty if there is none."""
    found = [end for end in one if end not in other] + [end for end in other if end not in one]
    if None in found:
        return [None]
    return sorted(found)[:1]


def alike(one, other, starts=None, *, most=1000):
    """Return the tables of both Rules if each start has the same ends with both, or the first one that has not."""
    tables = []
    for rules in (one, other):
        found = decide(rules, starts, most=most)
        if found[0] == "endless":
            return found
        tables.append(found[1])
    ends = [{row[:2]: row[2] for row in table} for table in tables]
    for start in asked(one.schema, starts, most):
        parted = least_end(ends[0][start], ends[1][start])
        if len(parted) > 0:
            return ("parted",) + start + (parted[0],)
    return ("alike", tables[0], tables[1])
