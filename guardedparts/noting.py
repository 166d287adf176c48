"""The calls on notes: notes."""

from guardedparts.parts import MOST_PARTS
from guardedparts.rights import tag_bit


def notes(state):
    """Tell the notes that are not gone."""
    pieces = state.row.pieces()
    answer = [len(state.notes)]
    for number, maker in state.notes.items():
        bit = tag_bit(MOST_PARTS + number)
        tagged = [piece for piece in pieces if (piece.tags & bit) != 0]
        answer.extend([number, maker, len(tagged)])
    return answer
