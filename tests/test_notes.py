"""Promise 25: notes."""

import unittest

from helper import DeskCase, Desk


class Notes(DeskCase):
    def test_none(self):
        self.do(0, "notes")
        self.do(0, "put", 0, "abc")
        self.do(1, "guard", 0, 2, 0)
        self.do(0, "notes")

    def test_stays_as_it_was(self):
        self.do(0, "put", 0, "abc")
        before = self.desk.kept()
        self.do(0, "notes")
        self.assertEqual(self.desk.kept(), before)


class NotesSetByHand(unittest.TestCase):
    def test_number_maker_and_pieces(self):
        desk = Desk()
        desk.do("put", 0, "abcd")
        desk.do("guard", 0, 5, 0)
        desk.state.notes = {1: 5, 3: 99, 499: 1}
        for piece in desk.state.row.shown[1:3]:
            piece.tags |= 1 << 501
        desk.state.row.shown[2].tags |= 1 << 999
        self.assertEqual(desk.do("notes"), [3, 1, 5, 2, 3, 99, 0, 499, 1, 1])

    def test_pieces_not_shown_count(self):
        desk = Desk()
        desk.do("put", 0, "abcd")
        desk.state.notes = {2: 4}
        for piece in desk.state.row.shown[1:3]:
            piece.tags |= 1 << 502
        desk.do("track", 1)
        desk.do("cut", 1, 2)
        self.assertEqual(desk.do("notes"), [1, 2, 4, 2])
        desk.do("move", 1, 2, 0)
        self.assertEqual(desk.do("notes"), [1, 2, 4, 3])

    def test_dissolving_and_notes_leave_one_another_alone(self):
        desk = Desk()
        desk.do("put", 0, "ab")
        desk.state.notes = {1: 1}
        desk.state.row.shown[0].tags |= 1 << 501
        desk.do("guard", 0, 2, 0)
        self.assertEqual(desk.column(5), [[1, 501], [1], []])
        self.assertEqual(desk.do("dissolve", 1), [2])
        self.assertEqual(desk.do("notes"), [1, 1, 1, 1])


if __name__ == "__main__":
    unittest.main()
