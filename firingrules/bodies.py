"""What comes of one call, by the ends that the calls within it have."""

from firingrules.walks import Walk, ascending


def body(rules, statement, database, table):
    """Return the ends of all runs of a call, the calls within it, and the names of the rules that fire."""
    walk = Walk(rules, (statement, database), (0, 0))
    walk.explore({call: {end: 0 for end in table[call]} for call in table})
    return (ascending(walk.ends), sorted(walk.calls), sorted(walk.fired))
