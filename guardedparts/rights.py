"""Who may do what where."""

from guardedparts.parts import MOST_PARTS


def is_author(number):
    """Whether a number is an author."""
    return 1 <= number <= 99


def is_level(number):
    """Whether a number is a level."""
    return 0 <= number <= 3


def tag_bit(tag):
    """The tags that are this tag alone."""
    return 1 << tag


def parts_among(tags):
    """The parts among tags, the notes left out."""
    return tags & ((1 << (MOST_PARTS + 1)) - 1)


def shared_tags(row, p):
    """The tags that the shown pieces at the places p - 1 and p both have."""
    if p == 0:
        return 0
    return row.shown[p - 1].tags & row.shown[p].tags


def seam_parts(row, p):
    """The parts of the seam p."""
    parts = shared_tags(row, p)
    before = row.before(p)
    if before is not None:
        parts = parts | (before.tags & row.shown[p].tags)
    return parts_among(parts)


def needed_level(state):
    """The level that is needed for a command."""
    return 2 if state.tracking else 3


def parts_below(state, level):
    """The parts in which the author of the moment has less than this level."""
    parts = 0
    for t, part in state.parts.items():
        if part.in_force and part.level_of(state.author) < level:
            parts = parts | tag_bit(t)
    return parts


def lacks_level(state, pieces, level):
    """Whether the level of the author of the moment is less than this one upon some of the pieces."""
    below = parts_below(state, level)
    return any([(piece.tags & below) != 0 for piece in pieces])


def lacks_level_at_seam(state, p, level):
    """Whether the level of the author of the moment at the seam p is less than this one."""
    return (seam_parts(state.row, p) & parts_below(state, level)) != 0
