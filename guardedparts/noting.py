"""The calls on notes: note, unnote and notes."""

from guardedparts.refusals import ALL_MADE, NO_PLACE, NO_RIGHT, NOT_THERE
from guardedparts.rights import lacks_level
from guardedparts.tags import MOST_NOTES, note_bit


def note(state, p, q):
    """Make a note on the stretch."""
    row = state.row
    if not 0 <= p < q <= len(row.shown):
        return [NO_PLACE]
    if lacks_level(state, row.shown[p:q], 1):
        return [NO_RIGHT]
    if state.notes_made == MOST_NOTES:
        return [ALL_MADE]
    state.notes_made = state.notes_made + 1
    k = state.notes_made
    state.notes[k] = state.author
    row.tag(p, q, note_bit(k))
    return [k]


def unnote(state, k):
    """Take note k away."""
    if k not in state.notes:
        return [NOT_THERE]
    if state.notes[k] != state.author:
        return [NO_RIGHT]
    state.notes.pop(k)
    return [state.row.untag(note_bit(k))]


def notes(state):
    """Tell the notes that are not gone."""
    worn = state.row.worn()
    answer = [len(state.notes)]
    for k, maker in state.notes.items():
        bit = note_bit(k)
        answer.extend([k, maker, sum([count for coat, count in worn if (coat.tags & bit) != 0])])
    return answer
