"""The row of pieces."""

from guardedparts.pieces import PARAGRAPH_END, PLAIN_LOOK, Piece


class Row:
    """The pieces in their order.

    The shown pieces stand in one list, by their places. The pieces that are
    not shown stand in gaps: gap p holds those directly before the shown piece
    at place p. As the last piece is always shown, each piece has its spot.
    So a place is found without walking the pieces that are not shown, which
    may be many more than those that are.
    """

    def __init__(self):
        self.shown = [Piece(PARAGRAPH_END, PLAIN_LOOK, (), 0)]
        self.gaps = [[]]

    def before(self, p):
        """The piece directly before the shown piece at place p, shown or not; None if there is none."""
        if self.gaps[p]:
            return self.gaps[p][-1]
        if p > 0:
            return self.shown[p - 1]
        return None

    def set_in(self, p, pieces):
        """Set shown pieces in, directly before the shown piece at place p."""
        gaps = [self.gaps[p]] + [[] for piece in pieces]
        self.gaps = self.gaps[:p] + gaps + self.gaps[p + 1:]
        self.shown = self.shown[:p] + pieces + self.shown[p:]

    def take_out(self, p, q):
        """Show the pieces at the places p to q - 1 no longer; q is a place too.

        Those that have deletions by now stay where they stand, the others go.
        """
        gap = []
        for k in range(p, q):
            gap.extend(self.gaps[k])
            if self.shown[k].deletions:
                gap.append(self.shown[k])
        gap.extend(self.gaps[q])
        self.gaps = self.gaps[:p] + [gap] + self.gaps[q + 1:]
        self.shown = self.shown[:p] + self.shown[q:]

    def span(self, p, q):
        """The pieces from the shown one at place p to the shown one at place q - 1, those between not shown too."""
        found = [self.shown[p]]
        for k in range(p + 1, q):
            found.extend(self.gaps[k])
            found.append(self.shown[k])
        return found

    def pieces(self):
        """All pieces of the row."""
        return self.gaps[0] + self.span(0, len(self.shown))
