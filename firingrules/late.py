"""Late rules: what they wait for, and the commit of a transaction."""

from firingrules.commits import Commit, Step
from firingrules.endings import Endings, ends_of
from firingrules.machines import end_of, finish, play_on
from firingrules.schemas import rank
from firingrules.searches import NONE
from firingrules.tables import ends_in
from firingrules.waits import all_waiting, differing, first_state, late_rules
from firingrules.walks import ascending
from firingrules.words import is_integer


def difference(schema, table, one, other):
    """Return the difference of two contents of a table."""
    return differing(schema, table, one, other)


def waiting(rules, state):
    """Return the list of the names of the rules that wait, in the order of the rules."""
    late = late_rules(rules)
    return [late[at][0] for at in all_waiting(rules, state)]


def commit_step(rules, state, table):
    """Return what may come of the next turn: the states, the calls, and the name of the rule if it fires."""
    step = Step(rules, state, {call: {end: 0 for end in table[call]} for call in table}, NONE)
    states = sorted(step.states)
    if step.is_refused():
        states = [None] + states
    return (states, sorted(step.outcome.calls), [step.name] if step.outcome.fires else [])


def commit(rules, beginning, now, *, limit=400):
    """Return the end of the commit whose calls run as in run."""
    machine = Commit(rules, beginning, now)
    finish(machine, limit)
    return end_of(machine)


def play_commit(rules, beginning, now, turns):
    """Play a list of names of rules in a commit, and return what is due behind them."""
    return play_on(Commit(rules, beginning, now), turns)


def pair_rank(pair):
    """Return what tuples (beginning, now) are ordered by."""
    return (rank(pair[0]), rank(pair[1]))


def decide_commits(rules, begun, *, most=1000):
    """Return the calls and the states of some commits with their ends, or the first one with an endless run."""
    endings = Endings(rules, most)
    for beginning, now in sorted(begun, key=pair_rank):
        state = first_state(rules, beginning, now)
        way = endings.settle(state)
        if way is not None:
            endings.check_spread(state)
            return ("endless", beginning, now, endings.search.turns_of(way))
    rows = [state + (ascending(endings.ends[state]), endings.heights[state]) for state in sorted(endings.ends)]
    return ("ends", endings.search.rows(), rows)


def is_state(rules, now, bases):
    """Return whether now and bases are a state of a commit."""
    late = late_rules(rules)
    if not rules.schema.is_database(now) or not isinstance(bases, tuple) or len(bases) != len(late):
        return False
    return all([rules.schema.is_content(rule[1], base) for rule, base in zip(late, bases)])


def is_commit_row(rules, thing):
    """Return whether thing is a tuple of a state, a list of ends and a height."""
    if not isinstance(thing, tuple) or len(thing) != 4:
        return False
    now, bases, ends, height = thing
    if not is_state(rules, now, bases) or not isinstance(ends, list):
        return False
    if not all([end is None or rules.schema.is_database(end) for end in ends]):
        return False
    return is_integer(height) and height >= 0


def is_right(rules, row, table, known, heights):
    """Return whether a row has the ends of the states behind it, and a height above theirs."""
    step = Step(rules, row[:2], table, NONE)
    if not all([state in heights and heights[state] < row[3] for state in step.states]):
        return False
    return row[2] == ascending(ends_of(row[:2], step, known))


def is_commits(rules, begun, table, thing):
    """Return whether thing is a list of states of the commits, with their ends and heights."""
    if not isinstance(thing, list) or not all([is_commit_row(rules, row) for row in thing]):
        return False
    heights = {row[:2]: row[3] for row in thing}
    if [row[:2] for row in thing] != sorted(heights):
        return False
    if not all([first_state(rules, beginning, now) in heights for beginning, now in begun]):
        return False
    known = {row[:2]: row[2] for row in thing}
    ends = ends_in(table)
    return all([is_right(rules, row, ends, known, heights) for row in thing])
