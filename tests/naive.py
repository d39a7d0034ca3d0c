"""Runs as the points about them say, by the shortest way, and all runs of a call by trying all choices."""

from tests import oracle
from tests.oracle import put_in, rows_at_hand


class Refused(Exception):
    """A call is refused."""


class Within(Exception):
    """A call begins within itself."""


class NoEnd(Exception):
    """A call has no end in the table."""


class Limit(Exception):
    """A turn would be one too many."""


def written(schema, rule, action, old, new):
    """The statement that an action writes; columns called like tables do no harm here."""
    hand = rows_at_hand(schema, rule, old, new)
    return action[:2] + tuple([put_in(part, hand) for part in action[2:]])


class Naive:
    """One run; choose is asked which of several names, or of several ends, is next."""

    def __init__(self, rules, choose, ends=None, limit=None):
        self.rules, self.choose, self.ends, self.limit = rules, choose, ends, limit
        self.schema = rules.schema
        self.turns, self.steps, self.fired, self.calls, self.bars, self.begun = [], [], [], [], set(), []
        self.deepest = 0

    def note(self, *step):
        self.steps.append(step)
        return len(self.steps) - 1

    def differs(self, rule, old, new):
        """Whether the columns of a rule are empty, or old and new differ in one of them."""
        columns = self.schema.columns(rule[1])
        return not rule[3] or any([dict(zip(columns, old))[c] != dict(zip(columns, new))[c] for c in rule[3]])

    def standing(self, statement, when, level):
        return [rule for rule in self.rules.rules if rule[1:3] == (statement[1], oracle.event_of(statement))
                and rule[4:6] == (when, level)]

    def touched(self, rule, statement):
        return not rule[3] or bool(set(rule[3]) & set(dict(statement[3])))

    def place(self, standing, turn):
        """Let the rules at a place have their turns; turn tells whether the place is over."""
        left = [rule[0] for rule in standing]
        while left:
            free = [b for b in left if not [a for a in left if (a, b) in self.rules.pairs]]
            name = self.choose(free)
            if self.limit is not None and len(self.turns) == self.limit:
                raise Limit()
            self.turns.append(name)
            left.remove(name)
            self.bars |= {(other, name) for other in left}
            if turn([rule for rule in standing if rule[0] == name][0]):
                return

    def ahead(self, hit, database, statement, number):
        """What comes of a hit."""
        state = [hit[1], 'done']

        def turn(rule):
            old, new = hit[0], state[0]
            fires = self.differs(rule, old, new) and oracle.holds(self.schema, rule, database, old, new)
            self.note('turn', number, rule[0], old, new, fires)
            if fires:
                self.fired.append((rule[0], len(self.begun)))
                state[1], state[0] = oracle.in_one_order(self.rules, [rule], database, old, new)
            if state[1] == 'refused':
                raise Refused()
            return state[1] != 'done'
        self.place(self.standing(statement, 'ahead', 'row'), turn)
        return (hit, (state[1], state[0]))

    def behind(self, standing, old, new, cause):
        """Let rules behind a row or a statement have their turns."""
        self.place(standing, lambda rule: self.look(rule, old, new, cause))

    def look(self, rule, old, new, cause):
        """Let a rule fire, if its condition holds."""
        fires = oracle.holds(self.schema, rule, self.database, old, new)
        number = self.note('turn', cause, rule[0], old, new, fires)
        if fires:
            self.fired.append((rule[0], len(self.begun)))
            for action in rule[7]:
                if action == ('refuse',):
                    raise Refused()
                self.within(written(self.schema, rule, action, old, new), number)

    def within(self, statement, cause):
        """Do a call of an action."""
        self.calls.append((statement, self.database))
        if self.ends is None:
            self.call(statement, self.database, cause)
            return
        ends = self.ends.get((statement, self.database), [])
        if not ends:
            raise NoEnd()
        end = self.choose(ends)
        if end is None:
            raise Refused()
        self.database = end

    def call(self, statement, database, cause=None):
        """Do a call, and leave the database that is its end."""
        if (statement, database) in self.begun:
            raise Within()
        self.begun.append((statement, database))
        self.deepest = max(self.deepest, len(self.begun))
        self.database = database
        number = self.note('call', cause, statement)
        for rule in self.standing(statement, 'ahead', 'statement'):
            if self.touched(rule, statement) and oracle.holds(self.schema, rule, database, None, None):
                raise Refused()
        hits = oracle.hits(self.schema, statement, database)
        changed, self.database = oracle.changed_by(
            self.schema, statement, database, [self.ahead(hit, database, statement, number) for hit in hits])
        if changed is None:
            raise Refused()
        numbers = [self.note('change', number, statement[1], old, new) for old, new in changed]
        for (old, new), cause in zip(changed, numbers):
            standing = [rule for rule in self.standing(statement, 'behind', 'row') if self.differs(rule, old, new)]
            self.behind(standing, old, new, cause)
        standing = [rule for rule in self.standing(statement, 'behind', 'statement') if self.touched(rule, statement)]
        self.behind(standing, None, None, number)
        self.begun.pop()


def outcome(naive, statement, database):
    """("end", end), or the name of what else comes of a run."""
    try:
        naive.call(statement, database)
    except Refused:
        return ('end', None)
    except (Within, NoEnd, Limit) as error:
        return (error.__class__.__name__,)
    return ('end', naive.database)


def all_runs(rules, statement, database, ends=None, most=400, begin=outcome, kind=Naive):
    """All runs as tuples (outcome, Naive), or None if they are more than most."""
    todo, found = [[]], []
    while todo:
        script = todo.pop()
        asked = []

        def choose(options):
            at = len(asked)
            if at < len(script):
                asked.append(script[at])
            else:
                for other in range(1, len(options)):
                    todo.append([*asked, other])
                asked.append(0)
            return options[asked[-1]]
        naive = kind(rules, choose, ends)
        found.append((begin(naive, statement, database), naive))
        if len(found) + len(todo) > most:
            return None
    return found


def first_run(rules, statement, database, limit):
    """The run of [52], as a tuple (outcome, Naive)."""
    naive = Naive(rules, lambda options: options[0], limit=limit)
    return (outcome(naive, statement, database), naive)


class Again(Exception):
    """A state of a commit comes again."""


def difference(schema, table, one, other):
    """The difference of two contents."""
    many = schema.key_count(table)
    keys = sorted({row[:many] for row in one} | {row[:many] for row in other})
    both = [[[row for row in rows if row[:many] == key] or [None] for rows in (one, other)] for key in keys]
    return [(old[0], new[0]) for old, new in both if old != new]


class NaiveCommit(Naive):
    """One run of a commit."""

    def awaited(self, at):
        """The tuples for which the late rule at an index waits."""
        rule = self.late[at]
        rows = self.database[self.schema.names.index(rule[1])]
        event = {(True, False): 'insert', (False, True): 'delete', (False, False): 'update'}
        return [(old, new) for old, new in difference(self.schema, rule[1], self.bases[at], rows)
                if event[old is None, new is None] == rule[2]
                and (rule[2] != 'update' or self.differs(rule, old, new))]

    def start(self, beginning, now):
        """Come to the first state."""
        self.late = [rule for rule in self.rules.rules if rule[4] == 'late']
        self.bases = [beginning[self.schema.names.index(rule[1])] for rule in self.late]
        self.database = now
        self.been = [self.state()]

    def state(self):
        """The state now."""
        return (self.database, tuple(self.bases))

    def turn(self):
        """Let the first rule that waits have its turn; return whether one did."""
        waiting = [at for at in range(len(self.late)) if self.awaited(at)]
        if not waiting:
            return False
        if self.limit is not None and len(self.turns) == self.limit:
            raise Limit()
        at = waiting[0]
        rule, looks = self.late[at], self.awaited(at)
        self.turns.append(rule[0])
        self.bases[at] = self.database[self.schema.names.index(rule[1])]
        for old, new in looks if rule[5] == 'row' else [(None, None)]:
            self.look(rule, old, new, self.cause_of(rule, (old, new) if rule[5] == 'row' else looks[0]))
        return True

    def cause_of(self, rule, pair):
        """The number of the last step that changes the row with the key of a pair (old, new)."""
        many = self.schema.key_count(rule[1])
        key = [row for row in pair if row is not None][0][:many]
        numbers = [at for at, step in enumerate(self.steps) if step[0] == 'change' and step[2] == rule[1]
                   and key in [row[:many] for row in step[3:] if row is not None]]
        # A commit without its statements has no steps ahead of it.
        return numbers[-1] if numbers else None

    def commit(self):
        """Go on until no rule waits."""
        while self.turn():
            if self.state() in self.been:
                raise Again()
            self.been.append(self.state())


def commit_outcome(naive, beginning, now):
    """As outcome, of a commit."""
    naive.start(beginning, now)
    try:
        naive.commit()
    except Refused:
        return ('end', None)
    except (Within, NoEnd, Limit, Again) as error:
        return (error.__class__.__name__,)
    return ('end', naive.database)


def transaction(rules, database, statements, limit):
    """The steps of a transaction and its end, or the name of what else comes of a run."""
    steps, now = [], database
    for statement in statements:
        naive = Naive(rules, lambda options: options[0], limit=limit)
        naive.steps = list(steps)
        found = outcome(naive, statement, now)
        if found[0] != 'end':
            return found[0], None
        steps = steps + [('call', None, statement)] if found[1] is None else naive.steps
        now = now if found[1] is None else found[1]
    naive = NaiveCommit(rules, lambda options: options[0], limit=limit)
    naive.steps = list(steps)
    found = commit_outcome(naive, database, now)
    if found[0] != 'end':
        return found[0], None
    return (steps if found[1] is None else naive.steps), found[1]


def step_outcome(naive, state, _):
    """As outcome, of the next turn of a commit; the end is a state."""
    naive.start(state[0], state[0])
    naive.bases = list(state[1])
    try:
        naive.turn()
    except Refused:
        return ('end', None)
    except (Within, NoEnd) as error:
        return (error.__class__.__name__,)
    return ('end', naive.state())
