"""Transactions: statements, saves and ways back, with their commit."""

from firingrules.errors import NoSave
from firingrules.late import commit
from firingrules.runs import run


def latest(saves, name):
    """Return the index of the latest save with a name."""
    found = [at for at in range(len(saves)) if saves[at][0] == name]
    if len(found) == 0:
        raise NoSave(name)
    return found[-1]


def transact(rules, database, deeds, *, limit=400):
    """Do a transaction; return the word of each deed and of the commit, and the database behind it."""
    words, saves, now = [], [], database
    for deed in deeds:
        if deed[0] == "save":
            saves.append((deed[1], now))
            words.append("saved")
        elif deed[0] == "back":
            saves = saves[:latest(saves, deed[1]) + 1]
            now = saves[-1][1]
            words.append("back")
        else:
            end = run(rules, deed, now, limit=limit)
            words.append("refused" if end is None else "done")
            now = now if end is None else end
    end = commit(rules, database, now, limit=limit)
    if end is None:
        return (words + ["undone"], database)
    return (words + ["done"], end)
