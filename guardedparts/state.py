"""What an object keeps from one call to the next."""

from guardedparts.row import Row


class Change:
    """A change that was entered."""

    def __init__(self, author, time, kind):
        self.author = author
        self.time = time
        self.kind = kind


class State:
    """An object on which calls are done.

    Change c is changes[c - 1]; parts are kept by their numbers, also those no
    longer in force; of the notes that are not gone, their authors are kept by
    the notes' numbers, in rising order. How many notes were made, also those
    that are gone, is counted besides.
    """

    def __init__(self):
        self.author = 1
        self.time = 0
        self.tracking = False
        self.row = Row()
        self.changes = []
        self.parts = {}
        self.notes = {}
        self.notes_made = 0

    def has_change(self, c):
        """Whether c is a change that was entered."""
        return 1 <= c <= len(self.changes)

    def part_in_force(self, t):
        """Part t, or None if there is no part t in force."""
        part = self.parts.get(t)
        if part is None or not part.in_force:
            return None
        return part
