"""The errors that this package raises."""


class RuleError(ValueError):
    """The class above all errors of this package."""


class Wrong(RuleError):
    """The argument at a place, counted from 0, is not as described."""

    def __init__(self, place):
        self.place = place


class Twice(RuleError):
    """A name is given twice."""

    def __init__(self, name):
        self.name = name


class BadTable(RuleError):
    """The item at an index is not a table."""

    def __init__(self, at):
        self.at = at


class BadRule(RuleError):
    """The item at an index is not a rule, or not one of the wanted kind."""

    def __init__(self, at):
        self.at = at


class BadPair(RuleError):
    """The item at an index is not a pair of the names of competing rules."""

    def __init__(self, at):
        self.at = at


class Ring(RuleError):
    """The pairs of an order lead from each of the members back to itself."""

    def __init__(self, members):
        self.members = members


class NoRule(RuleError):
    """There is no rule of this name."""

    def __init__(self, name):
        self.name = name


class Endless(RuleError):
    """A run never ends."""


class TooMany(RuleError):
    """There are more than the limit allows."""

    def __init__(self, limit):
        self.limit = limit


class Stopped(RuleError):
    """The item at an index cannot be done."""

    def __init__(self, at):
        self.at = at


class NoSave(RuleError):
    """There is no save with this name."""

    def __init__(self, name):
        self.name = name


class NoEntry(RuleError):
    """There is no entry at this index."""

    def __init__(self, at):
        self.at = at


class Nothing(RuleError):
    """There is nothing to take back, or to do again."""


class NoText(RuleError):
    """The value is not a text that writes what was asked for."""


class NoCommand(RuleError):
    """The value is not a line that can be executed now."""
