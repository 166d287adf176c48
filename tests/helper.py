"""What the tests have in common: calls by their names, and a look at what an object keeps."""

import unittest

from guardedparts.document import answers, answers_on
from guardedparts.state import State

NUMBERS = {
    "author": 0, "clock": 1, "track": 2, "put": 3, "cut": 4, "paint": 5, "move": 6, "guard": 7,
    "dissolve": 8, "others": 9, "grant": 10, "revoke": 11, "notes": 23,
}

FAR = 10 ** 18


def laid(name, *given):
    """A call as the list of whole numbers that the interface tells; put takes a text or a list."""
    numbers = [NUMBERS[name]]
    for value in given:
        if isinstance(value, str):
            value = [ord(sign) for sign in value]
        if isinstance(value, list):
            numbers.append(len(value))
            numbers.extend(value)
        else:
            numbers.append(value)
    return numbers


def apart(told):
    """The answers, each a list, of the one list that is given back."""
    found = []
    at = 0
    while at < len(told):
        found.append(told[at + 1:at + 1 + told[at]])
        at += 1 + told[at]
    return found


def tag_list(tags):
    """The tags of a piece as a rising list."""
    return [tag for tag in range(tags.bit_length()) if tags >> tag & 1]


class Desk:
    """An object, the calls that were done on it, and their answers."""

    def __init__(self):
        self.state = State()
        self.calls = []
        self.told = []

    def do(self, name, *given):
        """Do one call; its answer as a list."""
        calls = laid(name, *given)
        told = answers_on(self.state, calls)
        self.calls.extend(calls)
        self.told.extend(told)
        found = apart(told)
        assert len(found) == 1
        return found[0]

    def pieces(self):
        """All pieces of the row, as plain values."""
        return [
            (piece.sign, list(piece.look), list(piece.insertions), list(piece.deletions),
             [list(entry) for entry in piece.pending], tag_list(piece.tags))
            for piece in self.state.row.pieces()
        ]

    def row_text(self):
        """The signs of the row; those not shown in brackets; the last end left out."""
        text = ""
        for sign, look, insertions, deletions, pending, tags in self.pieces()[:-1]:
            text += "[" + chr(sign) + "]" if deletions else chr(sign)
        return text

    def column(self, which):
        """One value of each piece: 0 sign, 1 look, 2 insertions, 3 deletions, 4 pending looks, 5 tags."""
        return [piece[which] for piece in self.pieces()]

    def grants(self, t):
        """The grants of a part, by rising authors: author, level, whether passed on, giver."""
        held = self.state.parts[t].grants
        return [(a, held[a].level, held[a].pass_on, held[a].giver) for a in sorted(held)]

    def kept(self):
        """Everything that the object keeps, as plain values."""
        state = self.state
        return (
            state.author, state.time, state.tracking,
            [(change.author, change.time, change.kind) for change in state.changes],
            self.pieces(),
            [(t, part.in_force, part.owner, part.others, self.grants(t)) for t, part in state.parts.items()],
            dict(state.notes),
        )


class DeskCase(unittest.TestCase):
    """A test on one desk. At its end the whole line is asked once more through the interface."""

    def setUp(self):
        self.desk = Desk()

    def tearDown(self):
        if self.desk.calls:
            handed = list(self.desk.calls)
            self.assertEqual(answers(handed), self.desk.told)
            self.assertEqual(handed, self.desk.calls)

    def do(self, answer, name, *given):
        """Do a call and hold its answer, one number, against what is asked for."""
        self.assertEqual(self.desk.do(name, *given), [answer], (name,) + given)

    def refused(self, answer, name, *given):
        """Do a call that is refused; everything stays as it was."""
        before = self.desk.kept()
        self.do(answer, name, *given)
        self.assertEqual(self.desk.kept(), before, (name,) + given)
