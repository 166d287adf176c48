"""What the tests have in common: calls by their names, and a look at what an object keeps."""

import unittest

from guardedparts.document import answers, answers_on
from guardedparts.state import State

NUMBERS = {
    "author": 0, "clock": 1, "track": 2, "put": 3, "cut": 4, "paint": 5, "move": 6, "guard": 7,
    "dissolve": 8, "others": 9, "grant": 10, "revoke": 11, "transfer": 12, "accept": 13, "reject": 14,
    "note": 15, "unnote": 16, "right": 17, "level": 18, "part": 19, "row": 20, "text": 21, "change": 22,
    "notes": 23,
}

FAR = 10 ** 18


def laid(name, *given):
    """A call as the list of whole numbers that the interface tells; put takes a text or a list."""
    numbers = [NUMBERS[name]]
    for value in given:
        if isinstance(value, str):
            value = [ord(sign) for sign in value]
        if isinstance(value, list):
            numbers.append(len(value))
            numbers.extend(value)
        else:
            numbers.append(value)
    return numbers


def apart(told):
    """The answers, each a list, of the one list that is given back."""
    found = []
    at = 0
    while at < len(told):
        found.append(told[at + 1:at + 1 + told[at]])
        at += 1 + told[at]
    return found


def row_apart(told):
    """The pieces that row tells, each a tuple: sign, own look, insertions, deletions, pending looks, tags."""
    pieces = []
    at = 1
    while at < len(told):
        lists = []
        sign, look = told[at], told[at + 1:at + 5]
        at += 5
        for width in (1, 1, 3, 1):
            end = at + 1 + told[at] * width
            lists.append(told[at + 1:end])
            at = end
        insertions, deletions, numbers, tags = lists
        pending = [numbers[k:k + 3] for k in range(0, len(numbers), 3)]
        pieces.append((sign, look, insertions, deletions, pending, tags))
    assert (len(pieces), at) == (told[0], len(told))
    return pieces


class Desk:
    """An object, the calls that were done on it, and their answers."""

    def __init__(self):
        self.state = State()
        self.calls = []
        self.told = []

    def do(self, name, *given):
        """Do one call; its answer as a list."""
        calls = laid(name, *given)
        told = answers_on(self.state, calls)
        self.calls.extend(calls)
        self.told.extend(told)
        found = apart(told)
        assert len(found) == 1
        return found[0]

    def pieces(self):
        """All pieces of the row, as row tells them."""
        return row_apart(answers_on(self.state, [20])[1:])

    def looks(self):
        """The looks as shown of the shown pieces, as text tells them."""
        told = answers_on(self.state, [21, 1])[1:]
        return [told[at + 1:at + 5] for at in range(1, len(told), 5)]

    def row_text(self):
        """The signs of the row; those not shown in brackets; the last end left out."""
        text = ""
        for sign, look, insertions, deletions, pending, tags in self.pieces()[:-1]:
            text += "[" + chr(sign) + "]" if deletions else chr(sign)
        return text

    def column(self, which):
        """One value of each piece: 0 sign, 1 look, 2 insertions, 3 deletions, 4 pending looks, 5 tags."""
        return [piece[which] for piece in self.pieces()]

    def grants(self, t):
        """The grants of a part, by rising authors: author, level, whether passed on, giver."""
        held = self.state.parts[t].grants
        return [(a, held[a].level, held[a].pass_on, held[a].giver) for a in sorted(held)]

    def kept(self):
        """Everything that the object keeps, as plain values."""
        state = self.state
        return (
            state.author, state.time, state.tracking,
            [(change.author, change.time, change.kind) for change in state.changes],
            self.pieces(),
            [(t, part.in_force, part.owner, part.others, self.grants(t)) for t, part in state.parts.items()],
            state.notes_made, dict(state.notes),
        )


class DeskCase(unittest.TestCase):
    """A test on one desk. At its end the whole line is asked once more through the interface."""

    def setUp(self):
        self.desk = Desk()

    def tearDown(self):
        if self.desk.calls:
            handed = list(self.desk.calls)
            self.assertEqual(answers(handed), self.desk.told)
            self.assertEqual(handed, self.desk.calls)

    def do(self, answer, name, *given):
        """Do a call and hold its answer, a number or a list of them, against what is asked for."""
        want = answer if isinstance(answer, list) else [answer]
        self.assertEqual(self.desk.do(name, *given), want, (name,) + given)

    def tells(self, answer, name, *given):
        """Do a call that only tells; everything stays as it was."""
        before = self.desk.kept()
        self.do(answer, name, *given)
        self.assertEqual(self.desk.kept(), before, (name,) + given)

    def refused(self, answer, name, *given):
        """Do a call that is refused; everything stays as it was."""
        self.assertLess(answer, 0)
        self.tells(answer, name, *given)
