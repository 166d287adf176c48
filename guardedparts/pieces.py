"""The pieces of the row."""

PARAGRAPH_END = 10
PLAIN_LOOK = (0, 0, 0, 0)


def is_sign(number):
    """Whether a number is a sign."""
    return number == PARAGRAPH_END or 32 <= number <= 126


def with_property(look, k, v):
    """A look with v as its property k."""
    return look[:k] + (v,) + look[k + 1:]


class Piece:
    """A sign with its own look, the changes that it bears and its tags.

    The lists are tuples, so that a copy can share them with its original.
    A pending look is a tuple of its change, its property and its value.
    The look as shown is kept beside the pending looks, which may be many:
    whatever changes the own look or the pending looks changes it too.
    The tags are one whole number, in which bit t is set if t is among them:
    so tags are rising and none twice by themselves, and what a long stretch
    has in common with some parts is found without walking lists.
    """

    def __init__(self, sign, look, insertions, tags):
        self.sign = sign
        self.look = look
        self.insertions = insertions
        self.deletions = ()
        self.pending = ()
        self.shown_look = look
        self.tags = tags

    def paint_at_once(self, k, v):
        """Give the own look's property k the value v; no pending look names k then."""
        self.pending = tuple([entry for entry in self.pending if entry[1] != k])
        self.look = with_property(self.look, k, v)
        self.shown_look = with_property(self.shown_look, k, v)

    def paint_tracked(self, entry):
        """Add a pending look, if that shows; answer whether it does."""
        k = entry[1]
        v = entry[2]
        if self.shown_look[k] == v:
            return False
        self.pending = self.pending + (entry,)
        self.shown_look = with_property(self.shown_look, k, v)
        return True

    def twin(self):
        """A copy of this piece, which is shown."""
        other = Piece(self.sign, self.look, self.insertions, self.tags)
        other.pending = self.pending
        other.shown_look = self.shown_look
        return other
