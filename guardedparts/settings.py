"""The calls author, clock and track."""

from guardedparts.refusals import OUT_OF_ORDER, OUT_OF_RANGE
from guardedparts.rights import is_author


def author(state, a):
    """Let a be the author of the moment."""
    if not is_author(a):
        return [OUT_OF_RANGE]
    state.author = a
    return [0]


def clock(state, t):
    """Let t be the time of the moment."""
    if t < 0:
        return [OUT_OF_RANGE]
    if t < state.time:
        return [OUT_OF_ORDER]
    state.time = t
    return [0]


def track(state, on):
    """Turn tracking on or off."""
    if on != 0 and on != 1:
        return [OUT_OF_RANGE]
    state.tracking = on == 1
    return [0]
