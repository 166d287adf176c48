"""The commands: the calls put, cut, paint and move."""

from guardedparts.pieces import PARAGRAPH_END, PLAIN_LOOK, Coat, Piece, having, is_sign
from guardedparts.refusals import NO_PLACE, NO_RIGHT, OUT_OF_ORDER, OUT_OF_RANGE
from guardedparts.rights import lacks_level, lacks_level_at_seam, needed_level, seam_parts, shared_tags
from guardedparts.state import Change

PUT = 1
CUT = 2
PAINT = 3
MOVE = 4


def is_own(state, coat):
    """Whether a piece with this coat is own."""
    if not coat.insertions:
        return False
    return state.changes[coat.insertions[-1] - 1].author == state.author


def done_at_once(state, coat):
    """Whether a command changes a piece with this coat without a trace."""
    return not state.tracking or is_own(state, coat)


def change_to_be(state):
    """The number of the change that a command enters, if it does."""
    return len(state.changes) + 1


def enter(state, kind, borne):
    """End a command, whose change some piece bears or none; answer the change's number or 0."""
    if not borne:
        return [0]
    state.changes.append(Change(state.author, state.time, kind))
    return [len(state.changes)]


def put(state, p, signs):
    """Set new pieces in before place p."""
    row = state.row
    if not 0 <= p < len(row.shown):
        return [NO_PLACE]
    if not signs or not all([is_sign(sign) for sign in signs]):
        return [OUT_OF_RANGE]
    if lacks_level_at_seam(state, p, needed_level(state)):
        return [NO_RIGHT]
    insertions = (change_to_be(state),) if state.tracking else ()
    tags = shared_tags(row, p) | seam_parts(row, p)
    inner = row.numbered(Coat(look_within(row, p), insertions, (), (), tags))
    ending = row.numbered(Coat(look_of_end(row, p), insertions, (), (), tags))
    row.set_in(p, [Piece(sign, ending if sign == PARAGRAPH_END else inner) for sign in signs])
    return enter(state, PUT, state.tracking)


def look_within(row, p):
    """The own look of a new piece at place p that is no paragraph's end."""
    if p == 0 or row.shown[p - 1].sign == PARAGRAPH_END:
        return PLAIN_LOOK
    return row.shown[p - 1].coat.shown_look


def look_of_end(row, p):
    """The own look of a new paragraph's end at place p."""
    place = p
    while row.shown[place].sign != PARAGRAPH_END:
        place = place + 1
    return row.shown[place].coat.shown_look


def cut(state, p, q):
    """Take the stretch out of the text."""
    row = state.row
    if not 0 <= p < q < len(row.shown):
        return [NO_PLACE]
    stretch = row.shown[p:q]
    if lacks_level(state, stretch, needed_level(state)):
        return [NO_RIGHT]
    change = (change_to_be(state),)
    staying = having(stretch, lambda coat: not done_at_once(state, coat))
    row.recoat(staying, lambda coat: coat.with_deletions(change))
    row.take_out(p, q)
    return enter(state, CUT, staying != [])


def paint(state, p, q, k, v):
    """Give the stretch the value v as the property k of its look."""
    row = state.row
    if not 0 <= p < q <= len(row.shown):
        return [NO_PLACE]
    if not 0 <= k <= 3 or not 0 <= v <= 99:
        return [OUT_OF_RANGE]
    stretch = row.shown[p:q]
    if lacks_level(state, stretch, needed_level(state)):
        return [NO_RIGHT]
    entries = ((change_to_be(state), k, v),)
    at_once = having(stretch, lambda coat: done_at_once(state, coat))
    tracked = having(stretch, lambda coat: not done_at_once(state, coat) and coat.shown_look[k] != v)
    row.recoat(at_once, lambda coat: painted(coat, k, v))
    row.recoat(tracked, lambda coat: coat.with_looks(coat.look, coat.pending + entries))
    return enter(state, PAINT, tracked != [])


def painted(coat, k, v):
    """A coat with v as its own look's property k, and no pending look that names k."""
    look = coat.look[:k] + (v,) + coat.look[k + 1:]
    return coat.with_looks(look, tuple([entry for entry in coat.pending if entry[1] != k]))


def move(state, p, q, r):
    """Take the stretch over to directly before the shown piece at place r."""
    refusal = move_refusal(state, p, q, r)
    if refusal < 0:
        return [refusal]
    row = state.row
    stretch = row.shown[p:q]
    change = (change_to_be(state),)
    parts = seam_parts(row, r)

    def come_over(coat):
        insertions = coat.insertions if done_at_once(state, coat) else coat.insertions + change
        return coat.with_insertions(insertions).with_tags(coat.tags | parts)

    former = [piece.coat for piece in stretch]
    staying = having(stretch, lambda coat: not done_at_once(state, coat))
    row.recoat(staying, lambda coat: coat.with_deletions(change))
    coming = [Piece(piece.sign, coat) if piece.coat.deletions else piece for piece, coat in zip(stretch, former)]
    row.recoat(coming, come_over)
    row.take_out(p, q)
    row.set_in(r if r < p else r - (q - p), coming)
    return enter(state, MOVE, staying != [])


def move_refusal(state, p, q, r):
    """The refusal that move answers, or 0."""
    n = len(state.row.shown)
    if not 0 <= p < q < n or not 0 <= r < n:
        return NO_PLACE
    if p <= r <= q:
        return OUT_OF_ORDER
    level = needed_level(state)
    if lacks_level(state, state.row.shown[p:q], level) or lacks_level_at_seam(state, r, level):
        return NO_RIGHT
    return 0
