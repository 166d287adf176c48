"""The calls that decide on a change: accept and reject."""

from guardedparts.pieces import having
from guardedparts.refusals import NO_RIGHT, NOT_THERE
from guardedparts.rights import lacks_level


def accept(state, c):
    """Let change c hold without a trace."""
    if not state.has_change(c):
        return [NOT_THERE]
    row = state.row
    bearers = having(row.pieces(), lambda coat: coat.bears(c))
    if lacks_level(state, bearers, 3):
        return [NO_RIGHT]
    row.recoat(bearers, lambda coat: accepted(coat, c))
    row.keep(lambda coat: c not in coat.deletions)
    return [len(bearers)]


def accepted(coat, c):
    """A coat in which change c is accepted, but for its deletions."""
    look = list(coat.look)
    pending = list(coat.pending)
    for k in range(4):
        spots = [spot for spot, entry in enumerate(pending) if entry[0] == c and entry[1] == k]
        if spots:
            look[k] = pending[spots[-1]][2]
            pending = [entry for spot, entry in enumerate(pending) if entry[1] != k or spot > spots[-1]]
    return coat.with_looks(tuple(look), tuple(pending)).with_insertions(without(coat.insertions, c))


def reject(state, c):
    """Take change c back."""
    if not state.has_change(c):
        return [NOT_THERE]
    row = state.row
    bearers = having(row.pieces(), lambda coat: coat.bears(c))
    level = 2 if state.changes[c - 1].author == state.author else 3
    if lacks_level(state, bearers, level):
        return [NO_RIGHT]
    row.recoat(bearers, lambda coat: rejected(coat, c))
    row.keep(lambda coat: c not in coat.insertions)
    return [len(bearers)]


def rejected(coat, c):
    """A coat in which change c is rejected, but for its insertions."""
    pending = tuple([entry for entry in coat.pending if entry[0] != c])
    return coat.with_looks(coat.look, pending).with_deletions(without(coat.deletions, c))


def without(changes, c):
    """A list of changes without change c."""
    return tuple([change for change in changes if change != c])
