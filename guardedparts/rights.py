"""Who may do what where."""

from guardedparts.tags import parts_among, tag_bit, tag_list


def is_author(number):
    """Whether a number is an author."""
    return 1 <= number <= 99


def is_level(number):
    """Whether a number is a level."""
    return 0 <= number <= 3


def shared_tags(row, p):
    """The tags that the shown pieces at the places p - 1 and p both have."""
    if p == 0:
        return 0
    return row.shown[p - 1].coat.tags & row.shown[p].coat.tags


def seam_parts(row, p):
    """The parts of the seam p."""
    parts = shared_tags(row, p)
    before = row.before(p)
    if before is not None:
        parts = parts | (before.coat.tags & row.shown[p].coat.tags)
    return parts_among(parts)


def least_level(state, author, tags):
    """The least of an author's levels in the parts among the tags; 3 if there are none."""
    return min([3] + [state.parts[t].level_of(author) for t in tag_list(parts_among(tags))])


def needed_level(state):
    """The level that is needed for a command."""
    return 2 if state.tracking else 3


def parts_below(state, level):
    """The parts in which the author of the moment has less than this level."""
    parts = 0
    for t, part in state.parts.items():
        if part.in_force and part.level_of(state.author) < level:
            parts = parts | tag_bit(t)
    return parts


def lacks_level(state, pieces, level):
    """Whether the level of the author of the moment is less than this one upon some of the pieces."""
    below = parts_below(state, level)
    return any([(piece.coat.tags & below) != 0 for piece in pieces])


def lacks_level_at_seam(state, p, level):
    """Whether the level of the author of the moment at the seam p is less than this one."""
    return least_level(state, state.author, seam_parts(state.row, p)) < level
