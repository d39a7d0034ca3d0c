"""Runs of one call, by the order of the rules and by lists of turns."""

from firingrules.machines import end_of, finish, play_on, started


def run(rules, statement, database, *, limit=400):
    """Return the end of the run in which the first rule that may has its turn."""
    machine = started(rules, statement, database)
    finish(machine, limit)
    return end_of(machine)


def trace(rules, statement, database, *, limit=400):
    """Return the list of the steps of the run that run takes."""
    machine = started(rules, statement, database)
    finish(machine, limit)
    return list(machine.steps)


def play(rules, statement, database, turns):
    """Play a list of names of rules, and return what is due behind them."""
    return play_on(started(rules, statement, database), turns)
