"""Whether a rule ever fires."""

from firingrules.beginnings import asked
from firingrules.searches import SHORT, Search
from firingrules.walks import Walk


def line_to(back, call):
    """Return the list of the calls that lead to one, each within the one ahead; back has the one ahead of each."""
    found = []
    while call is not None:
        found.append(call)
        call = back[call]
    found.reverse()
    return found


class Quest:
    """A quest for a call in which a rule fires, by a table of calls.

    dull has the calls in whose runs it does not fire, nor in those of the calls within.
    """

    def __init__(self, rules, name, table):
        self.rules = rules
        self.name = name
        self.table = table
        self.dull = {}

    def line(self, start):
        """Return the calls from a start to the nearest one in which the rule fires, each within the one ahead.

        The last one's walk is returned with them, or None if the rule does not fire.
        """
        back = {start: None}
        todo = [start]
        at = 0
        while at < len(todo):
            call = todo[at]
            walk = Walk(self.rules, call, SHORT)
            walk.explore(self.table)
            if self.name in walk.fired:
                return (line_to(back, call), walk)
            for inner in walk.calls:
                if inner not in back and inner not in self.dull:
                    back[inner] = call
                    todo.append(inner)
            at += 1
        for call in todo:
            self.dull[call] = True
        return ([], None)


def fires(rules, name, starts=None, *, most=1000):
    """Return the table of decide if a rule never fires, or the first start with a run in which it does."""
    given = asked(rules.schema, starts, most)
    search = Search(rules, SHORT, most)
    endless = search.settle_all(given)
    if endless is not None:
        return ("endless",) + endless
    quest = Quest(rules, name, search.table)
    for start in given:
        if start not in quest.dull:
            calls, walk = quest.line(start)
            if walk is not None:
                way = search.way_through(calls) + walk.way_to_firing(name)
                return ("fires",) + start + (search.turns_of(way),)
    return ("never", search.rows())
