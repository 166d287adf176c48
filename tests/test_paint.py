"""Promise 7, and promise 4 for paint."""

import unittest

from helper import FAR, DeskCase


class Paint(DeskCase):
    def setUp(self):
        DeskCase.setUp(self)
        self.do(0, "put", 0, "abc")

    def test_tracking_off(self):
        self.do(0, "paint", 0, 2, 0, 1)
        self.do(0, "paint", 1, 4, 3, 99)
        self.do(0, "paint", 1, 2, 0, 0)
        self.assertEqual(self.desk.column(1), [[1, 0, 0, 0], [0, 0, 0, 99], [0, 0, 0, 99], [0, 0, 0, 99]])
        self.assertEqual(self.desk.state.changes, [])

    def test_no_place(self):
        for p, q in ((-1, 2), (0, 0), (2, 1), (4, 4), (4, 5), (0, 5), (-FAR, 2), (0, FAR), (FAR, -FAR)):
            self.refused(-1, "paint", p, q, 0, 1)

    def test_last_end_is_painted_too(self):
        self.do(0, "paint", 3, 4, 2, 6)
        self.assertEqual(self.desk.column(1)[3], [0, 0, 6, 0])

    def test_out_of_range(self):
        for k, v in ((-1, 0), (4, 0), (0, -1), (0, 100), (FAR, 0), (-FAR, 0), (0, FAR), (3, -FAR)):
            self.refused(-2, "paint", 0, 4, k, v)

    def test_smallest_and_greatest(self):
        for k in (0, 3):
            for v in (99, 0):
                self.do(0, "paint", 0, 1, k, v)
                self.assertEqual(self.desk.column(1)[0][k], v)

    def test_order_of_refusals(self):
        self.do(1, "guard", 0, 4, 0)
        self.do(0, "author", 2)
        self.refused(-1, "paint", 0, 5, 4, 100)
        self.refused(-1, "paint", 2, 2, 0, 1)
        self.refused(-2, "paint", 0, 4, 4, 0)
        self.refused(-2, "paint", 0, 4, 0, 100)
        self.refused(-9, "paint", 0, 4, 0, 1)

    def test_tracking_on(self):
        self.do(0, "clock", 2)
        self.do(0, "author", 4)
        self.do(0, "track", 1)
        self.do(1, "paint", 0, 2, 1, 5)
        self.do(2, "paint", 1, 3, 1, 6)
        self.do(3, "paint", 1, 2, 0, 7)
        self.assertEqual(self.desk.column(4), [[[1, 1, 5]], [[1, 1, 5], [2, 1, 6], [3, 0, 7]], [[2, 1, 6]], []])
        self.assertEqual(self.desk.column(1), [[0, 0, 0, 0]] * 4)
        self.assertEqual([(c.author, c.time, c.kind) for c in self.desk.state.changes], [(4, 2, 3)] * 3)

    def test_what_shows_the_value_already_is_left_alone(self):
        self.do(0, "track", 1)
        self.do(0, "paint", 0, 4, 2, 0)
        self.do(1, "paint", 0, 1, 2, 9)
        self.do(0, "paint", 0, 1, 2, 9)
        self.do(2, "paint", 0, 2, 2, 9)
        self.assertEqual(self.desk.column(4), [[[1, 2, 9]], [[2, 2, 9]], [], []])

    def test_last_pending_look_of_the_property_shows(self):
        self.do(0, "track", 1)
        self.do(1, "paint", 0, 1, 2, 9)
        self.do(2, "paint", 0, 1, 2, 0)
        self.do(3, "paint", 0, 1, 1, 9)
        self.do(0, "paint", 0, 1, 2, 0)
        self.do(4, "paint", 0, 1, 2, 9)
        self.assertEqual(self.desk.column(4)[0], [[1, 2, 9], [2, 2, 0], [3, 1, 9], [4, 2, 9]])

    def test_tracking_off_lets_pending_looks_go(self):
        self.do(0, "track", 1)
        self.do(1, "paint", 0, 1, 2, 9)
        self.do(2, "paint", 0, 1, 1, 8)
        self.do(3, "paint", 0, 1, 2, 7)
        self.do(0, "track", 0)
        self.do(0, "paint", 0, 1, 2, 7)
        self.assertEqual(self.desk.column(4)[0], [[2, 1, 8]])
        self.assertEqual(self.desk.column(1)[0], [0, 0, 7, 0])

    def test_own_pieces_are_painted_at_once(self):
        self.do(0, "track", 1)
        self.do(1, "put", 1, "x")
        self.do(0, "paint", 1, 2, 0, 4)
        self.do(2, "paint", 0, 3, 0, 5)
        self.assertEqual(self.desk.column(4), [[[2, 0, 5]], [], [[2, 0, 5]], [], []])
        self.assertEqual(self.desk.column(1)[1], [5, 0, 0, 0])

    def test_own_pieces_lose_pending_looks_of_others(self):
        self.do(0, "track", 1)
        self.do(1, "put", 1, "x")
        self.do(0, "author", 2)
        self.do(2, "paint", 1, 2, 0, 4)
        self.do(3, "paint", 1, 2, 1, 4)
        self.do(0, "author", 1)
        self.do(0, "paint", 1, 2, 0, 6)
        self.assertEqual(self.desk.column(4)[1], [[3, 1, 4]])
        self.assertEqual(self.desk.column(1)[1], [6, 0, 0, 0])

    def test_pieces_not_shown_are_not_painted(self):
        self.do(0, "track", 1)
        self.do(1, "cut", 1, 2)
        self.do(2, "paint", 0, 2, 0, 4)
        self.assertEqual(self.desk.column(4), [[[2, 0, 4]], [], [[2, 0, 4]], []])

    def test_rights(self):
        self.do(1, "guard", 1, 2, 2)
        self.do(0, "author", 2)
        self.refused(-9, "paint", 0, 4, 0, 1)
        self.refused(-9, "paint", 1, 2, 0, 0)
        self.do(0, "paint", 0, 1, 0, 1)
        self.do(0, "track", 1)
        self.do(1, "paint", 0, 4, 0, 1)
        self.do(0, "author", 1)
        self.do(2, "others", 1, 1)
        self.do(0, "author", 2)
        self.refused(-9, "paint", 0, 4, 0, 2)


if __name__ == "__main__":
    unittest.main()
