"""Orders: whether each start has one end, and the least order with which it has."""

from heapq import heappop, heappush

from firingrules.beginnings import asked
from firingrules.errors import Stopped, TooMany
from firingrules.orderings import closed
from firingrules.machines import started
from firingrules.runs import play
from firingrules.searches import SHORT, Search
from firingrules.statements import is_statement
from firingrules.words import is_name


def first_parted(search, starts):
    """Return the index of the first start of a table that has two ends, or None."""
    for at, start in enumerate(starts):
        if len(search.table[start]) > 1:
            return at
    return None


def one_end(rules, starts=None, *, most=1000):
    """Return the table of decide if each start has one end, or two runs of the first start that has two."""
    given = asked(rules.schema, starts, most)
    search = Search(rules, SHORT, most)
    endless = search.settle_all(given)
    if endless is not None:
        return ("endless",) + endless
    at = first_parted(search, given)
    if at is None:
        return ("one", search.rows())
    return ("parted",) + given[at] + search.turns_to_two_ends(given[at])


def barring(rules, statement, database, turns):
    """Return the ascending list of the pairs that bar the run of a turn list."""
    machine = started(rules, statement, database)
    found = {}
    for name in turns:
        for other in machine.names_due():
            if other != name:
                found[(other, name)] = True
        machine.turn(name)
        machine.advance()
    return sorted(found)


def children(rules, witness):
    """Return the orders that contain the one of some rules and a pair that bars a run of its witness."""
    found = {}
    for turns in witness[2:]:
        for one, other in barring(rules, witness[0], witness[1], turns):
            if not rules.goes_ahead(other, one):
                found[tuple(closed(rules.pairs + [(one, other)]))] = True
    return list(found)


class Hunt:
    """A hunt for the good order with the fewest pairs, of several the least.

    queue has the orders that are still to be looked at, by their numbers of pairs.
    doubtful has for each order the starts that may have two ends with it, or None
    if some run may never end: with more pairs there are only fewer runs.
    """

    def __init__(self, rules, starts, most):
        self.rules = rules
        self.starts = starts
        self.most = most
        self.queue = []
        self.doubtful = {}
        self.enter(tuple(rules.pairs), None)

    def enter(self, order, doubtful):
        """Put an order into the queue, unless it was there."""
        if order not in self.doubtful:
            self.doubtful[order] = doubtful
            heappush(self.queue, (len(order), order))

    def look(self, rules, doubtful):
        """Return a witness that the order of some rules is not good, and what is doubtful with more pairs.

        If the order is good, return (None, None).
        """
        search = Search(rules, SHORT, self.most)
        rest = doubtful
        if doubtful is None:
            endless = search.settle_all(self.starts)
            if endless is not None:
                return (endless, None)
            rest = [start for start in self.starts if len(search.table[start]) > 1]
        for at, start in enumerate(rest):
            search.settle(start)
            if len(search.table[start]) > 1:
                return (start + search.turns_to_two_ends(start), rest[at:])
        return (None, None)

    def result(self):
        """Return the list of the pairs, or None, and the rows."""
        rows = []
        while len(self.queue) > 0:
            if len(rows) == self.most:
                raise TooMany(self.most)
            _, order = heappop(self.queue)
            rules = self.rules.ordered(order)
            witness, doubtful = self.look(rules, self.doubtful[order])
            if witness is None:
                return (list(order), sorted(rows))
            rows.append((list(order), witness))
            for child in children(rules, witness):
                self.enter(child, doubtful)
        return (None, sorted(rows))


def least(rules, starts=None, *, most=1000):
    """Return the good order with the fewest pairs, or None, and rows that show that none is ahead of it."""
    return Hunt(rules, asked(rules.schema, starts, most), most).result()


def is_order(rules, thing):
    """Return whether thing is the list of the pairs of an order that contains the present one."""
    if not isinstance(thing, list) or not all([isinstance(pair, tuple) and len(pair) == 2 for pair in thing]):
        return False
    if not all([is_name(name) for pair in thing for name in pair]):
        return False
    competing = {pair: True for pair in rules.competing()}
    if not all([pair in competing for pair in thing]) or closed(thing) != thing:
        return False
    return all([pair in thing for pair in rules.pairs])


def is_turn_list(thing):
    """Return whether thing is a list of names."""
    return isinstance(thing, list) and all([is_name(name) for name in thing])


def played(rules, call, turns):
    """Return what play returns for a turn list, or None if it is none that play takes."""
    try:
        return play(rules, call[0], call[1], turns)
    except Stopped:
        return None


def is_witness(rules, starts, thing):
    """Return whether thing shows for one of the starts that the order of some rules is not good."""
    if not isinstance(thing, tuple) or not 3 <= len(thing) <= 4:
        return False
    if not is_statement(rules.schema, thing[0]) or not rules.schema.is_database(thing[1]):
        return False
    if thing[:2] not in starts or not all([is_turn_list(turns) for turns in thing[2:]]):
        return False
    told = [played(rules, thing[:2], turns) for turns in thing[2:]]
    if len(told) == 1:
        return told[0] == ("endless",)
    return all([one is not None and one[0] == "end" for one in told]) and told[0] != told[1]


def is_bad_row(rules, starts, thing):
    """Return whether thing is an order, with a witness that it is not good."""
    if not isinstance(thing, tuple) or len(thing) != 2 or not is_order(rules, thing[0]):
        return False
    return is_witness(rules.ordered(thing[0]), starts, thing[1])


def is_least(rules, starts, pairs, thing):
    """Return whether thing shows that no good order is ahead of the told one, or that there is none."""
    if not isinstance(thing, list) or not all([is_bad_row(rules, starts, row) for row in thing]):
        return False
    orders = [tuple(order) for order, _ in thing]
    there = {order: True for order in orders}
    if orders != sorted(there):
        return False
    if tuple(rules.pairs) not in there and pairs != rules.pairs:
        return False
    for order, witness in thing:
        for child in children(rules.ordered(order), witness):
            if child not in there and (pairs is None or (len(child), child) < (len(pairs), tuple(pairs))):
                return False
    return True
