"""The calls that only tell: right, level, part, row, text and change."""

from guardedparts.refusals import NO_PLACE, NOT_THERE, OUT_OF_RANGE
from guardedparts.rights import is_author, least_level, seam_parts
from guardedparts.tags import parts_among, tag_bit, tag_list


def tell_right(state, a, p):
    """Tell author a's levels upon the piece at place p and at the seam p, and how many parts the piece has."""
    row = state.row
    if not is_author(a):
        return [OUT_OF_RANGE]
    if not 0 <= p < len(row.shown):
        return [NO_PLACE]
    parts = parts_among(row.shown[p].coat.tags)
    return [least_level(state, a, parts), least_level(state, a, seam_parts(row, p)), len(tag_list(parts))]


def tell_level(state, t, a):
    """Tell author a's level in part t."""
    part = state.part_in_force(t)
    if part is None:
        return [NOT_THERE]
    if not is_author(a):
        return [OUT_OF_RANGE]
    return [part.level_of(a)]


def tell_part(state, t):
    """Tell all of part t, in force or not."""
    if t not in state.parts:
        return [NOT_THERE]
    part = state.parts[t]
    bit = tag_bit(t)
    worn = [(coat, count) for coat, count in state.row.worn() if (coat.tags & bit) != 0]
    tagged = sum([count for coat, count in worn])
    shown = sum([count for coat, count in worn if not coat.deletions])
    answer = [1 if part.in_force else 0, part.owner, part.others, tagged, shown, len(part.grants)]
    for a in sorted(part.grants):
        held = part.grants[a]
        answer.extend([a, held.level, 1 if held.pass_on else 0, held.giver])
    return answer


def tell_row(state):
    """Tell all pieces, with all that they have."""
    pieces = state.row.pieces()
    known = {}
    answer = [len(pieces)]
    for piece in pieces:
        number = piece.coat.number
        if number not in known:
            known[number] = coat_told(piece.coat)
        answer.append(piece.sign)
        answer.extend(known[number])
    return answer


def coat_told(coat):
    """All numbers that row tells of a piece with this coat, but its sign."""
    told = list(coat.look)
    for changes in (coat.insertions, coat.deletions):
        told.append(len(changes))
        told.extend(changes)
    told.append(len(coat.pending))
    for entry in coat.pending:
        told.extend(entry)
    tags = tag_list(coat.tags)
    told.append(len(tags))
    told.extend(tags)
    return told


def tell_text(state, w):
    """Tell the text as it is shown (1), or without all that was put with tracking on (2)."""
    if w == 1:
        return looks_told([(piece.sign, piece.coat.shown_look) for piece in state.row.shown])
    if w == 2:
        former = [piece for piece in state.row.pieces() if not piece.coat.insertions]
        return looks_told([(piece.sign, piece.coat.look) for piece in former])
    return [OUT_OF_RANGE]


def looks_told(signs):
    """How many signs there are, and each with its look."""
    answer = [len(signs)]
    for sign, look in signs:
        answer.append(sign)
        answer.extend(look)
    return answer


def tell_change(state, c):
    """Tell change c, and how many pieces bear it."""
    if not state.has_change(c):
        return [NOT_THERE]
    change = state.changes[c - 1]
    bearers = sum([count for coat, count in state.row.worn() if coat.bears(c)])
    return [change.author, change.time, change.kind, bearers]
