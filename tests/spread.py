"""What the points about tables of calls say, from the bodies of all calls to which runs come."""

from firingrules.bodies import body


def start_order(start):
    """By the number of rows, the database, and then the statement."""
    return (sum([len(content) for content in start[1]]), start[1], start[0])


class Spread:
    """All calls to which runs from some calls come, with all their ends, also those of calls that may be endless."""

    def __init__(self, rules, calls):
        self.ends = {call: [] for call in calls}
        self.within = {}
        changed = True
        while changed:
            changed = False
            for call in list(self.ends)[::-1]:
                ends, self.within[call], _ = body(rules, call[0], call[1], self.ends)
                for inner in self.within[call]:
                    if inner not in self.ends:
                        self.ends[inner] = []
                        changed = True
                if ends != self.ends[call]:
                    self.ends[call] = ends
                    changed = True

    def reached(self, calls):
        """These calls and those to which their runs come."""
        found, todo = set(calls), list(calls)
        while todo:
            for inner in self.within[todo.pop()]:
                if inner not in found:
                    found.add(inner)
                    todo.append(inner)
        return found

    def is_endless(self, call):
        """Whether some run of a call never ends: by taking away calls whose calls within are all away."""
        left = self.reached([call])
        while True:
            away = {one for one in left if not set(self.within[one]) & left}
            if not away:
                return bool(left)
            left -= away

    def heights(self):
        """The least heights of calls whose runs all end."""
        found = {}
        while len(found) < len(self.ends):
            for call, within in self.within.items():
                if all([inner in found for inner in within]):
                    found[call] = max([found[inner] + 1 for inner in within], default=0)
        return found


def decided(rules, starts):
    """What decide tells, without turns; and the number of calls that is due."""
    spread = Spread(rules, starts)
    line = sorted(starts, key=start_order)
    for at, start in enumerate(line):
        if spread.is_endless(start):
            return ('endless', *start), len(spread.reached(line[:at + 1]))
    heights = spread.heights()
    return ('ends', [(*call, spread.ends[call], heights[call]) for call in sorted(spread.ends)]), len(spread.ends)
