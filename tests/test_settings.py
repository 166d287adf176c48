"""Promises 1 to 3: author, clock, track; and the object at a line's beginning."""

import unittest

from helper import FAR, DeskCase


class Beginning(DeskCase):
    def test_new_object(self):
        self.assertEqual(
            self.desk.kept(),
            (1, 0, False, [], [(10, [0, 0, 0, 0], [], [], [], [])], [], 0, {}),
        )


class Author(DeskCase):
    def test_smallest_and_greatest(self):
        for a in (1, 2, 98, 99):
            self.do(0, "author", a)
            self.assertEqual(self.desk.state.author, a)

    def test_out_of_range(self):
        self.do(0, "author", 7)
        for a in (0, -1, 100, FAR, -FAR):
            self.refused(-2, "author", a)

    def test_changes_are_the_authors(self):
        self.do(0, "track", 1)
        self.do(1, "put", 0, "a")
        self.do(0, "author", 99)
        self.do(2, "put", 0, "b")
        self.assertEqual([change.author for change in self.desk.state.changes], [1, 99])


class Clock(DeskCase):
    def test_onwards_and_the_same(self):
        for t in (0, 0, 5, 5, 6, FAR, FAR):
            self.do(0, "clock", t)
            self.assertEqual(self.desk.state.time, t)

    def test_below_nought(self):
        for t in (-1, -FAR):
            self.refused(-2, "clock", t)

    def test_below_nought_is_looked_at_first(self):
        self.do(0, "clock", 5)
        self.refused(-2, "clock", -1)
        self.refused(-3, "clock", 0)
        self.refused(-3, "clock", 4)
        self.do(0, "clock", 5)

    def test_changes_have_the_time(self):
        self.do(0, "track", 1)
        self.do(0, "clock", 3)
        self.do(1, "put", 0, "a")
        self.do(0, "clock", 8)
        self.do(2, "put", 0, "b")
        self.assertEqual([change.time for change in self.desk.state.changes], [3, 8])


class Track(DeskCase):
    def test_on_and_off(self):
        self.do(0, "put", 0, "a")
        self.do(0, "track", 1)
        self.do(1, "put", 0, "b")
        self.do(0, "track", 1)
        self.do(2, "put", 0, "c")
        self.do(0, "track", 0)
        self.do(0, "put", 0, "d")

    def test_neither(self):
        for on in (2, -1, FAR, -FAR):
            self.refused(-2, "track", on)
        self.do(0, "track", 1)
        for on in (2, -1, FAR, -FAR):
            self.refused(-2, "track", on)
        self.do(1, "put", 0, "a")


if __name__ == "__main__":
    unittest.main()
