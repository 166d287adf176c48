"""Parts, their grants, and the grounds that grants have."""


class Grant:
    """What an author may do in a part, and by whom that was given."""

    def __init__(self, level, pass_on, giver):
        self.level = level
        self.pass_on = pass_on
        self.giver = giver

    def can_give(self, level):
        """Whether who has this grant may give one of this level."""
        return self.pass_on and self.level >= level


class Part:
    """A guarded part. Its grants are kept by their authors."""

    def __init__(self, owner, others):
        self.in_force = True
        self.owner = owner
        self.others = others
        self.grants = {}

    def level_of(self, author):
        """The level of an author in this part."""
        if author == self.owner:
            return 3
        if author in self.grants:
            return max(self.others, self.grants[author].level)
        return self.others

    def may_give(self, author, level):
        """Whether an author may give a grant of this level to somebody who has none."""
        if author == self.owner:
            return True
        return author in self.grants and self.grants[author].can_give(level)

    def hand_over(self, author):
        """Make an author the owner, without a grant; what the former owner gave counts as given by them."""
        if author in self.grants:
            self.grants.pop(author)
        for held in self.grants.values():
            if held.giver == self.owner:
                held.giver = author
        self.owner = author

    def drop_groundless(self):
        """Let the grants go that have no ground; answer how many went."""
        kept = self.grounded()
        dropped = len(self.grants) - len(kept)
        self.grants = kept
        return dropped

    def grounded(self):
        """The grants that have a ground.

        They are found from the owner outwards, for grants that hold up only
        one another have no ground.
        """
        found = {}
        grew = True
        while grew:
            grew = False
            for author, held in self.grants.items():
                if author not in found and self.stands_on(held, found):
                    found[author] = held
                    grew = True
        return found

    def stands_on(self, held, found):
        """Whether a grant was given by the owner, or stands on one of those found."""
        if held.giver == self.owner:
            return True
        return held.giver in found and found[held.giver].can_give(held.level)
