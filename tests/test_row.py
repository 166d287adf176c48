"""Promises 22, 23 and 24: row, text and change."""

import unittest

from helper import FAR, DeskCase


class Row(DeskCase):
    def test_new(self):
        self.tells([1, 10, 0, 0, 0, 0, 0, 0, 0, 0], "row")

    def test_signs_and_own_looks(self):
        self.do(0, "put", 0, " ~\n")
        self.do(0, "paint", 0, 1, 0, 99)
        self.do(0, "paint", 1, 3, 3, 7)
        self.tells([4, 32, 99, 0, 0, 0, 0, 0, 0, 0, 126, 0, 0, 0, 7, 0, 0, 0, 0,
                    10, 0, 0, 0, 7, 0, 0, 0, 0, 10, 0, 0, 0, 0, 0, 0, 0, 0], "row")

    def test_every_list(self):
        self.do(0, "put", 0, "ab")
        self.do(1, "guard", 0, 1, 3)
        self.do(2, "guard", 0, 2, 3)
        self.do(1, "note", 0, 1)
        self.do(0, "track", 1)
        self.do(1, "paint", 0, 1, 2, 5)
        self.do(2, "paint", 0, 1, 0, 6)
        self.do(3, "move", 0, 1, 2)
        self.do(0, "author", 2)
        self.do(4, "move", 1, 2, 0)
        self.tells([
            5,
            97, 0, 0, 0, 0, 0, 1, 3, 2, 1, 2, 5, 2, 0, 6, 3, 1, 2, 501,
            97, 0, 0, 0, 0, 2, 3, 4, 0, 2, 1, 2, 5, 2, 0, 6, 3, 1, 2, 501,
            98, 0, 0, 0, 0, 0, 0, 0, 1, 2,
            97, 0, 0, 0, 0, 1, 3, 1, 4, 2, 1, 2, 5, 2, 0, 6, 3, 1, 2, 501,
            10, 0, 0, 0, 0, 0, 0, 0, 0,
        ], "row")

    def test_largest_and_smallest_tags(self):
        for t in range(1, 501):
            self.do(t, "guard", 0, 1, 3)
        for k in range(1, 500):
            self.do(k, "note", 0, 1)
        self.tells([1, 10, 0, 0, 0, 0, 0, 0, 0, 999] + list(range(1, 1000)), "row")


class Text(DeskCase):
    def setUp(self):
        DeskCase.setUp(self)
        self.do(0, "put", 0, "abc")
        self.do(0, "paint", 1, 2, 1, 4)
        self.do(0, "track", 1)

    def test_new(self):
        self.do(0, "track", 0)
        self.do(0, "cut", 0, 3)
        for w in (1, 2):
            self.tells([1, 10, 0, 0, 0, 0], "text", w)

    def test_what_was_cut(self):
        self.do(1, "cut", 0, 1)
        self.tells([3, 98, 0, 4, 0, 0, 99, 0, 0, 0, 0, 10, 0, 0, 0, 0], "text", 1)
        self.tells([4, 97, 0, 0, 0, 0, 98, 0, 4, 0, 0, 99, 0, 0, 0, 0, 10, 0, 0, 0, 0], "text", 2)

    def test_what_was_put(self):
        self.do(1, "put", 2, "x")
        self.tells([5, 97, 0, 0, 0, 0, 98, 0, 4, 0, 0, 120, 0, 4, 0, 0, 99, 0, 0, 0, 0, 10, 0, 0, 0, 0], "text", 1)
        self.tells([4, 97, 0, 0, 0, 0, 98, 0, 4, 0, 0, 99, 0, 0, 0, 0, 10, 0, 0, 0, 0], "text", 2)

    def test_what_was_painted(self):
        self.do(1, "paint", 1, 3, 1, 9)
        self.do(2, "paint", 1, 2, 3, 8)
        self.do(3, "paint", 1, 2, 1, 7)
        self.tells([4, 97, 0, 0, 0, 0, 98, 0, 7, 0, 8, 99, 0, 9, 0, 0, 10, 0, 0, 0, 0], "text", 1)
        self.tells([4, 97, 0, 0, 0, 0, 98, 0, 4, 0, 0, 99, 0, 0, 0, 0, 10, 0, 0, 0, 0], "text", 2)

    def test_what_was_moved(self):
        self.do(1, "move", 0, 1, 2)
        self.tells([4, 98, 0, 4, 0, 0, 97, 0, 0, 0, 0, 99, 0, 0, 0, 0, 10, 0, 0, 0, 0], "text", 1)
        self.tells([4, 97, 0, 0, 0, 0, 98, 0, 4, 0, 0, 99, 0, 0, 0, 0, 10, 0, 0, 0, 0], "text", 2)

    def test_behind_accept_and_reject(self):
        self.do(1, "put", 0, "x")
        self.do(2, "paint", 1, 2, 0, 5)
        self.do(3, "cut", 3, 4)
        self.do(1, "accept", 1)
        self.do(1, "reject", 2)
        self.do(1, "accept", 3)
        want = [4, 120, 0, 0, 0, 0, 97, 0, 0, 0, 0, 98, 0, 4, 0, 0, 10, 0, 0, 0, 0]
        self.tells(want, "text", 1)
        self.tells(want, "text", 2)

    def test_a_painted_last_end(self):
        self.do(1, "paint", 3, 4, 2, 6)
        self.assertEqual(self.desk.do("text", 1)[-5:], [10, 0, 0, 6, 0])
        self.assertEqual(self.desk.do("text", 2)[-5:], [10, 0, 0, 0, 0])

    def test_cut_and_put_at_once(self):
        """What another author cut of what was put is in neither text."""
        self.do(1, "put", 0, "x")
        self.do(0, "author", 2)
        self.do(2, "cut", 0, 1)
        self.assertEqual(self.desk.do("text", 1)[::5], [4, 0, 0, 0, 0])
        self.assertEqual(self.desk.do("text", 1)[1::5], [97, 98, 99, 10])
        self.assertEqual(self.desk.do("text", 2)[1::5], [97, 98, 99, 10])

    def test_other_ws(self):
        for w in (0, 3, -1, -2, FAR, -FAR):
            self.refused(-2, "text", w)


class Change(DeskCase):
    def test_author_time_and_kind(self):
        self.do(0, "put", 0, "abcd")
        self.do(0, "track", 1)
        self.do(0, "author", 7)
        self.do(0, "clock", 5)
        self.do(1, "put", 1, "xy")
        self.do(0, "author", 99)
        self.do(2, "cut", 0, 1)
        self.do(0, "clock", FAR)
        self.do(3, "paint", 0, 3, 0, 1)
        self.do(4, "move", 2, 4, 0)
        self.tells([7, 5, 1, 2], "change", 1)
        self.tells([99, 5, 2, 1], "change", 2)
        self.tells([99, FAR, 3, 4], "change", 3)
        self.tells([99, FAR, 4, 4], "change", 4)

    def test_pieces_that_bear_it(self):
        self.do(0, "track", 1)
        self.do(1, "put", 0, "abc")
        self.tells([1, 0, 1, 3], "change", 1)
        self.do(0, "author", 2)
        self.do(2, "move", 0, 1, 2)
        self.tells([1, 0, 1, 4], "change", 1)
        self.tells([2, 0, 4, 2], "change", 2)
        self.do(0, "author", 1)
        self.do(0, "cut", 0, 1)
        self.tells([1, 0, 1, 3], "change", 1)
        self.do(2, "accept", 2)
        self.tells([1, 0, 1, 2], "change", 1)
        self.tells([2, 0, 4, 0], "change", 2)

    def test_pending_looks(self):
        self.do(0, "put", 0, "abc")
        self.do(0, "track", 1)
        self.do(1, "paint", 0, 4, 0, 1)
        self.do(2, "paint", 1, 2, 1, 1)
        self.tells([1, 0, 3, 4], "change", 1)
        self.tells([1, 0, 3, 1], "change", 2)
        self.do(0, "track", 0)
        self.do(0, "paint", 1, 4, 0, 2)
        self.tells([1, 0, 3, 1], "change", 1)
        self.tells([1, 0, 3, 1], "change", 2)

    def test_not_entered(self):
        for c in (1, 0, -1, FAR, -FAR):
            self.refused(-4, "change", c)
        self.do(0, "track", 1)
        self.do(1, "put", 0, "a")
        for c in (0, 2, -1, FAR, -FAR):
            self.refused(-4, "change", c)

    def test_first_and_last(self):
        self.do(0, "track", 1)
        for c in range(1, 301):
            self.do(0, "author", 1 + c % 2)
            self.do(c, "put", 0, "a")
        self.tells([2, 0, 1, 1], "change", 1)
        self.tells([1, 0, 1, 1], "change", 300)
        self.refused(-4, "change", 301)

    def test_no_right_is_asked(self):
        self.do(0, "put", 0, "a")
        self.do(1, "guard", 0, 2, 0)
        self.do(0, "track", 1)
        self.do(1, "cut", 0, 1)
        self.do(0, "author", 2)
        self.tells([1, 0, 2, 1], "change", 1)
        self.tells([2, 97, 0, 0, 0, 0, 0, 1, 1, 0, 1, 1, 10, 0, 0, 0, 0, 0, 0, 0, 1, 1], "row")


if __name__ == "__main__":
    unittest.main()
