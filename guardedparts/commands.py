"""The commands: the calls put, cut, paint and move."""

from guardedparts.pieces import PARAGRAPH_END, PLAIN_LOOK, Piece, is_sign
from guardedparts.refusals import NO_PLACE, NO_RIGHT, OUT_OF_ORDER, OUT_OF_RANGE
from guardedparts.rights import lacks_level, lacks_level_at_seam, needed_level, seam_parts, shared_tags
from guardedparts.state import Change

PUT = 1
CUT = 2
PAINT = 3
MOVE = 4


def is_own(state, piece):
    """Whether a piece is own."""
    if not piece.insertions:
        return False
    return state.changes[piece.insertions[-1] - 1].author == state.author


def done_at_once(state, piece):
    """Whether a command changes a piece without a trace."""
    return not state.tracking or is_own(state, piece)


def change_to_be(state):
    """The number of the change that a command enters, if it does."""
    return len(state.changes) + 1


def enter(state, kind, borne):
    """End a command, whose change some piece bears or none; answer the change's number or 0."""
    if not borne:
        return [0]
    state.changes.append(Change(state.author, state.time, kind))
    return [len(state.changes)]


def put(state, p, signs):
    """Set new pieces in before place p."""
    row = state.row
    if not 0 <= p < len(row.shown):
        return [NO_PLACE]
    if not signs or not all([is_sign(sign) for sign in signs]):
        return [OUT_OF_RANGE]
    if lacks_level_at_seam(state, p, needed_level(state)):
        return [NO_RIGHT]
    insertions = (change_to_be(state),) if state.tracking else ()
    tags = shared_tags(row, p) | seam_parts(row, p)
    inner = look_within(row, p)
    ending = look_of_end(row, p)
    pieces = []
    for sign in signs:
        look = ending if sign == PARAGRAPH_END else inner
        pieces.append(Piece(sign, look, insertions, tags))
    row.set_in(p, pieces)
    return enter(state, PUT, state.tracking)


def look_within(row, p):
    """The own look of a new piece at place p that is no paragraph's end."""
    if p == 0 or row.shown[p - 1].sign == PARAGRAPH_END:
        return PLAIN_LOOK
    return row.shown[p - 1].shown_look


def look_of_end(row, p):
    """The own look of a new paragraph's end at place p."""
    place = p
    while row.shown[place].sign != PARAGRAPH_END:
        place = place + 1
    return row.shown[place].shown_look


def cut(state, p, q):
    """Take the stretch out of the text."""
    row = state.row
    if not 0 <= p < q < len(row.shown):
        return [NO_PLACE]
    stretch = row.shown[p:q]
    if lacks_level(state, stretch, needed_level(state)):
        return [NO_RIGHT]
    marks = (change_to_be(state),)
    borne = False
    for piece in stretch:
        if not done_at_once(state, piece):
            piece.deletions = marks
            borne = True
    row.take_out(p, q)
    return enter(state, CUT, borne)


def paint(state, p, q, k, v):
    """Give the stretch the value v as the property k of its look."""
    row = state.row
    if not 0 <= p < q <= len(row.shown):
        return [NO_PLACE]
    if not 0 <= k <= 3 or not 0 <= v <= 99:
        return [OUT_OF_RANGE]
    stretch = row.shown[p:q]
    if lacks_level(state, stretch, needed_level(state)):
        return [NO_RIGHT]
    entry = (change_to_be(state), k, v)
    borne = False
    for piece in stretch:
        if done_at_once(state, piece):
            piece.paint_at_once(k, v)
        elif piece.paint_tracked(entry):
            borne = True
    return enter(state, PAINT, borne)


def move(state, p, q, r):
    """Take the stretch over to directly before the shown piece at place r."""
    refusal = move_refusal(state, p, q, r)
    if refusal < 0:
        return [refusal]
    row = state.row
    marks = (change_to_be(state),)
    parts = seam_parts(row, r)
    longer = {}
    borne = False
    coming = []
    for piece in row.shown[p:q]:
        if done_at_once(state, piece):
            comer = piece
        else:
            comer = leave_copy(piece, marks, longer)
            borne = True
        comer.tags = comer.tags | parts
        coming.append(comer)
    row.take_out(p, q)
    row.set_in(r if r < p else r - (q - p), coming)
    return enter(state, MOVE, borne)


def move_refusal(state, p, q, r):
    """The refusal that move answers, or 0."""
    n = len(state.row.shown)
    if not 0 <= p < q < n or not 0 <= r < n:
        return NO_PLACE
    if p <= r <= q:
        return OUT_OF_ORDER
    level = needed_level(state)
    if lacks_level(state, state.row.shown[p:q], level) or lacks_level_at_seam(state, r, level):
        return NO_RIGHT
    return 0


def leave_copy(piece, marks, longer):
    """Mark a piece as moved away; answer the copy that comes over for it.

    marks is the list of the one change that moves. Many pieces have the same
    insertions: longer keeps what each such list becomes, so that their copies
    share it and a row of many long lists stays small.
    """
    if piece.insertions not in longer:
        longer[piece.insertions] = piece.insertions + marks
    comer = piece.twin()
    comer.insertions = longer[piece.insertions]
    piece.deletions = marks
    return comer
