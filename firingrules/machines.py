"""Machines: one run, turn by turn, with its steps.

A machine does not recur when calls begin within calls: those that are not over
stand in a list, the latest one last.
"""

from firingrules.ahead import is_change, is_refused_ahead, move
from firingrules.errors import Endless, Stopped, TooMany
from firingrules.rules import holds, statement_of
from firingrules.statements import change, event_of, hits
from firingrules.walks import standing_row, standing_statement

REFUSED = "refused"
ENDLESS = "endless"


class Frame:
    """A call that has begun and is not over, or a turn outside of all calls, whose call is None.

    part tells where it is: "ahead" of rows, behind a "row" or behind the "statement";
    at is the index of the next hit or change there. waiting has the rules at the place
    at hand that have not had their turn, old and new are its rows, and cause is the
    number of the step that turns there name. todo has what is to be done first: tuples
    (rule, action, old, new, cause), without an action for the rule's look at its condition.
    """

    def __init__(self, call, part, cause):
        self.call = call
        self.part = part
        self.cause = cause
        self.number = cause
        self.at = 0
        self.hits = []
        self.changed = []
        self.numbers = []
        self.waiting = []
        self.old = None
        self.new = None
        self.counts = False
        self.todo = []


class Machine:
    """One run of calls, one after another, over a database.

    stopped is None, or tells that a call is refused or has begun within itself;
    then the run does not go on. Its steps stand behind those that it is given.
    """

    def __init__(self, rules, database, steps=()):
        self.rules = rules
        self.schema = rules.schema
        self.database = database
        self.frames = []
        self.begun = {}
        self.steps = list(steps)
        self.turns = 0
        self.stopped = None

    def note(self, step):
        """Note a step, and return its number."""
        self.steps.append(step)
        return len(self.steps) - 1

    def begin(self, statement, cause):
        """Begin a call."""
        call = (statement, self.database)
        if call in self.begun:
            self.stopped = ENDLESS
            return
        self.begun[call] = True
        frame = Frame(call, "ahead", self.note(("call", cause, statement)))
        self.frames.append(frame)
        if is_refused_ahead(self.rules, statement, self.database):
            self.stopped = REFUSED
        else:
            frame.hits = hits(self.schema, statement, self.database)

    def look(self, rule, old, new, cause):
        """Let a rule fire outside of all calls, if its condition holds."""
        frame = Frame(None, "statement", cause)
        frame.todo.append((rule, None, old, new, cause))
        self.frames.append(frame)

    def advance(self):
        """Go on until a turn is due, no call is left, or the run has stopped."""
        while self.stopped is None and len(self.frames) > 0:
            frame = self.frames[-1]
            if len(frame.todo) > 0:
                self.act(frame)
            elif len(frame.waiting) > 0:
                return
            elif frame.part == "ahead":
                self.go_on_ahead(frame)
            elif frame.part == "row":
                self.go_on_behind(frame)
            else:
                self.end(frame)

    def end(self, frame):
        """Take away the latest call, which is over."""
        self.frames.pop()
        if frame.call is not None:
            del self.begun[frame.call]

    def act(self, frame):
        """Do what a frame has to do first."""
        rule, action, old, new, cause = frame.todo.pop(0)
        if action is None:
            fires = holds(self.schema, rule, self.database, old, new)
            number = self.note(("turn", cause, rule[0], old, new, fires))
            if fires:
                frame.todo = [(rule, one, old, new, number) for one in rule[7]] + frame.todo
            return
        statement = statement_of(self.schema, rule, action, old, new)
        if statement is None:
            self.stopped = REFUSED
        else:
            self.begin(statement, cause)

    def go_on_ahead(self, frame):
        """Go on to the place ahead of the next hit, or do the changes."""
        statement, database = frame.call
        if frame.counts and is_change(self.schema, statement, database, frame.old, frame.new):
            frame.changed.append((frame.old, frame.new))
        if frame.at == len(frame.hits):
            self.do_changes(frame)
            return
        frame.old, frame.new = frame.hits[frame.at]
        frame.at += 1
        frame.counts = True
        frame.waiting = self.rules.standing(statement[1], event_of(statement), "ahead", "row")

    def do_changes(self, frame):
        """Do all changes of a call at once, unless keys forbid them."""
        table = frame.call[0][1]
        behind = change(self.schema, table, self.database, frame.changed)
        if behind is None:
            self.stopped = REFUSED
            return
        self.database = behind
        frame.numbers = [self.note(("change", frame.number, table, old, new)) for old, new in frame.changed]
        frame.part, frame.at = "row", 0

    def go_on_behind(self, frame):
        """Go on to the place behind the next change, or behind the statement."""
        statement = frame.call[0]
        if frame.at == len(frame.changed):
            frame.part, frame.cause = "statement", frame.number
            frame.old, frame.new = None, None
            frame.waiting = standing_statement(self.rules, statement)
            return
        frame.old, frame.new = frame.changed[frame.at]
        frame.cause = frame.numbers[frame.at]
        frame.at += 1
        frame.waiting = standing_row(self.rules, statement, frame.old, frame.new)

    def names_due(self):
        """Return the list of the names of the rules at the place at hand that have not had their turn."""
        if self.stopped is not None or len(self.frames) == 0:
            return []
        return [rule[0] for rule in self.frames[-1].waiting]

    def free(self):
        """Return the list of the names of the rules that may have their turn next."""
        names = self.names_due()
        return [name for name in names if not any([self.rules.goes_ahead(one, name) for one in names])]

    def turn(self, name):
        """Let a rule at the place at hand have its turn."""
        frame = self.frames[-1]
        rule = self.rules[name]
        frame.waiting = [one for one in frame.waiting if one[0] != name]
        self.turns += 1
        if frame.part == "ahead":
            self.turn_ahead(frame, rule)
        else:
            frame.todo.append((rule, None, frame.old, frame.new, frame.cause))

    def turn_ahead(self, frame, rule):
        """Let a rule ahead of a row have its turn."""
        fires, (word, row) = move(self.schema, rule, frame.call[1], frame.old, frame.new)
        self.note(("turn", frame.cause, rule[0], frame.old, frame.new, fires))
        if word == "refused":
            self.stopped = REFUSED
        elif word == "passed":
            frame.waiting, frame.counts = [], False
        else:
            frame.new = row


def started(rules, statement, database, steps=()):
    """Return the machine of a run of a call, up to its first turn; its steps stand behind these."""
    machine = Machine(rules, database, steps)
    machine.begin(statement, None)
    machine.advance()
    return machine


def finish(machine, limit):
    """Let the first rule that may always have its turn, until the run is over; without a limit if it is None."""
    free = machine.free()
    while len(free) > 0:
        if machine.turns == limit:
            raise TooMany(limit)
        machine.turn(free[0])
        machine.advance()
        free = machine.free()
    if machine.stopped == ENDLESS:
        raise Endless()


def end_of(machine):
    """Return the end of a run that is over."""
    return machine.database if machine.stopped is None else None


def play_on(machine, turns):
    """Let rules have their turns by a list of names, and return what is due behind them."""
    for at, name in enumerate(turns):
        if name not in machine.free():
            raise Stopped(at)
        machine.turn(name)
        machine.advance()
    free = machine.free()
    if len(free) > 0:
        return ("open", free)
    if machine.stopped == ENDLESS:
        return ("endless",)
    return ("end", end_of(machine))
