"""The row of pieces."""

from guardedparts.pieces import PARAGRAPH_END, PLAIN_LOOK, Coat, Piece, having


class Row:
    """The pieces in their order.

    The shown pieces stand in one list, by their places. The pieces that are
    not shown stand in gaps: gap p holds those directly before the shown piece
    at place p. As the last piece is always shown, each piece has its spot.
    So a place is found without walking the pieces that are not shown, which
    may be many more than those that are.
    """

    def __init__(self):
        self.coats_made = 0
        self.shown = [Piece(PARAGRAPH_END, self.numbered(Coat(PLAIN_LOOK, (), (), (), 0)))]
        self.gaps = [[]]

    def numbered(self, coat):
        """A new coat, with its number."""
        self.coats_made = self.coats_made + 1
        coat.number = self.coats_made
        return coat

    def recoat(self, pieces, remade):
        """Give each of the pieces the new coat that is remade from the one it has."""
        made = {}
        for piece in pieces:
            number = piece.coat.number
            if number not in made:
                made[number] = self.numbered(remade(piece.coat))
            piece.coat = made[number]

    def tag(self, p, q, bit):
        """Give a tag to the span from place p to place q - 1."""
        self.recoat(self.span(p, q), lambda coat: coat.with_tags(coat.tags | bit))

    def untag(self, bit):
        """Take a tag from all pieces; answer how many had it."""
        tagged = having(self.pieces(), lambda coat: (coat.tags & bit) != 0)
        self.recoat(tagged, lambda coat: coat.with_tags(coat.tags - bit))
        return len(tagged)

    def before(self, p):
        """The piece directly before the shown piece at place p, shown or not; None if there is none."""
        if self.gaps[p]:
            return self.gaps[p][-1]
        if p > 0:
            return self.shown[p - 1]
        return None

    def set_in(self, p, pieces):
        """Set shown pieces in, directly before the shown piece at place p."""
        gaps = [self.gaps[p]] + [[] for piece in pieces]
        self.gaps = self.gaps[:p] + gaps + self.gaps[p + 1:]
        self.shown = self.shown[:p] + pieces + self.shown[p:]

    def take_out(self, p, q):
        """Show the pieces at the places p to q - 1 no longer; q is a place too.

        Those that have deletions by now stay where they stand, the others go.
        """
        gap = []
        for k in range(p, q):
            gap.extend(self.gaps[k])
            if self.shown[k].coat.deletions:
                gap.append(self.shown[k])
        gap.extend(self.gaps[q])
        self.gaps = self.gaps[:p] + [gap] + self.gaps[q + 1:]
        self.shown = self.shown[:p] + self.shown[q:]

    def keep(self, holds):
        """Let the pieces go for whose coats something does not hold; show those that have no deletions by now."""
        shown = []
        gaps = []
        gap = []
        for piece in having(self.pieces(), holds):
            if piece.coat.deletions:
                gap.append(piece)
            else:
                shown.append(piece)
                gaps.append(gap)
                gap = []
        self.shown = shown
        self.gaps = gaps

    def span(self, p, q):
        """The pieces from the shown one at place p to the shown one at place q - 1, those between not shown too."""
        found = [self.shown[p]]
        for k in range(p + 1, q):
            found.extend(self.gaps[k])
            found.append(self.shown[k])
        return found

    def pieces(self):
        """All pieces of the row."""
        return self.gaps[0] + self.span(0, len(self.shown))

    def worn(self):
        """The coats that pieces of the row have, each in a tuple with how many have it."""
        coats = {}
        counts = {}
        for piece in self.pieces():
            number = piece.coat.number
            if number not in counts:
                coats[number] = piece.coat
                counts[number] = 0
            counts[number] = counts[number] + 1
        return [(coat, counts[number]) for number, coat in coats.items()]
