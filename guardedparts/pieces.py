"""The pieces of the row, and their coats."""

PARAGRAPH_END = 10
PLAIN_LOOK = (0, 0, 0, 0)


def is_sign(number):
    """Whether a number is a sign."""
    return number == PARAGRAPH_END or 32 <= number <= 126


def look_as_shown(look, pending):
    """The look as shown of an own look with pending looks."""
    shown = list(look)
    for entry in pending:
        shown[entry[1]] = entry[2]
    return tuple(shown)


class Coat:
    """All that a piece has besides its sign.

    A coat is never changed: where something changes in a piece, the piece
    gets another coat. So the pieces that were treated alike share one, and
    what a call makes of it, or asks of it, is worked out once for them all.
    Its number, which the row gives it, tells it from the row's other coats.

    The lists are tuples; a pending look is a tuple of its change, its
    property and its value. The tags are one whole number, in which bit t is
    set if t is among them: so they are rising and none twice by themselves.
    """

    def __init__(self, look, insertions, deletions, pending, tags):
        self.number = 0
        self.look = look
        self.insertions = insertions
        self.deletions = deletions
        self.pending = pending
        self.tags = tags
        self.shown_look = look_as_shown(look, pending)

    def bears(self, c):
        """Whether change c is among the insertions, the deletions or in the pending looks."""
        return c in self.insertions or c in self.deletions or c in [entry[0] for entry in self.pending]

    def with_insertions(self, insertions):
        """This coat with other insertions."""
        return Coat(self.look, insertions, self.deletions, self.pending, self.tags)

    def with_deletions(self, deletions):
        """This coat with other deletions."""
        return Coat(self.look, self.insertions, deletions, self.pending, self.tags)

    def with_looks(self, look, pending):
        """This coat with another own look and other pending looks."""
        return Coat(look, self.insertions, self.deletions, pending, self.tags)

    def with_tags(self, tags):
        """This coat with other tags."""
        return Coat(self.look, self.insertions, self.deletions, self.pending, tags)


class Piece:
    """A sign with its coat."""

    def __init__(self, sign, coat):
        self.sign = sign
        self.coat = coat


def having(pieces, holds):
    """Those of the pieces for whose coats something holds; it is asked once for each coat."""
    known = {}
    found = []
    for piece in pieces:
        number = piece.coat.number
        if number not in known:
            known[number] = holds(piece.coat)
        if known[number]:
            found.append(piece)
    return found
