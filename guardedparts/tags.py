"""Tags: parts and notes, as the bits of one whole number."""

MOST_PARTS = 500
MOST_NOTES = 499


def tag_bit(tag):
    """The tags that are this tag alone."""
    return 1 << tag


def note_bit(k):
    """The tags that are note k's alone."""
    return tag_bit(MOST_PARTS + k)


def parts_among(tags):
    """The parts among tags, the notes left out."""
    return tags & (tag_bit(MOST_PARTS + 1) - 1)


def tag_list(tags):
    """The tags one by one, rising."""
    found = []
    rest = tags
    while rest != 0:
        low = rest & -rest
        found.append(low.bit_length() - 1)
        rest = rest - low
    return found
