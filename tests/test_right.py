"""Promises 19 and 20: right and level."""

import unittest

from helper import FAR, DeskCase


class Right(DeskCase):
    def test_no_parts(self):
        self.tells([3, 3, 0], "right", 1, 0)
        self.tells([3, 3, 0], "right", 99, 0)

    def test_upon_the_piece_and_at_the_seam(self):
        self.do(0, "put", 0, "abcd")
        self.do(1, "guard", 1, 3, 1)
        for p, want in enumerate(([3, 3, 0], [1, 3, 1], [1, 1, 1], [3, 3, 0], [3, 3, 0])):
            self.tells(want, "right", 2, p)
            self.tells([3, 3, want[2]], "right", 1, p)

    def test_the_least_of_several_parts(self):
        self.do(0, "put", 0, "abc")
        self.do(1, "guard", 0, 3, 2)
        self.do(2, "guard", 1, 3, 1)
        self.do(3, "guard", 2, 3, 0)
        self.tells([2, 3, 1], "right", 2, 0)
        self.tells([1, 2, 2], "right", 2, 1)
        self.tells([0, 1, 3], "right", 2, 2)
        self.do(0, "grant", 3, 2, 3, 0)
        self.tells([1, 1, 3], "right", 2, 2)
        self.do(0, "grant", 2, 2, 3, 0)
        self.tells([2, 2, 3], "right", 2, 2)
        self.tells([0, 1, 3], "right", 3, 2)

    def test_seam_with_the_piece_before_that_is_not_shown(self):
        self.do(0, "put", 0, "abcd")
        self.do(1, "guard", 1, 3, 1)
        self.do(0, "track", 1)
        self.do(1, "cut", 1, 2)
        self.tells([1, 1, 1], "right", 2, 1)
        self.tells([3, 3, 0], "right", 2, 2)

    def test_seam_at_the_beginning(self):
        self.do(0, "put", 0, "abc")
        self.do(1, "guard", 0, 3, 0)
        self.tells([0, 3, 1], "right", 2, 0)
        self.do(0, "track", 1)
        self.do(1, "cut", 0, 1)
        self.tells([0, 0, 1], "right", 2, 0)

    def test_seam_of_two_sorts(self):
        self.do(0, "put", 0, "abc")
        self.do(1, "guard", 0, 3, 2)
        self.do(0, "move", 1, 2, 0)
        self.do(2, "guard", 0, 1, 1)
        self.do(0, "move", 0, 1, 2)
        self.do(3, "guard", 1, 3, 0)
        self.assertEqual(self.desk.column(5), [[1], [1, 2, 3], [1, 3], []])
        self.do(0, "track", 1)
        self.do(1, "cut", 1, 2)
        self.tells([0, 0, 2], "right", 2, 1)
        self.tells([3, 3, 2], "right", 1, 1)
        self.do(0, "others", 3, 3)
        self.tells([2, 2, 2], "right", 2, 1)

    def test_the_last_end(self):
        self.do(0, "put", 0, "a")
        self.do(1, "guard", 0, 2, 1)
        self.tells([1, 1, 1], "right", 2, 1)
        self.tells([3, 3, 1], "right", 1, 1)
        self.refused(-1, "right", 2, 2)

    def test_dissolved_parts_do_not_count(self):
        self.do(0, "put", 0, "ab")
        self.do(1, "guard", 0, 2, 0)
        self.do(2, "guard", 0, 2, 1)
        self.tells([0, 0, 2], "right", 2, 1)
        self.do(2, "dissolve", 1)
        self.tells([1, 1, 1], "right", 2, 1)

    def test_notes_do_not_count(self):
        self.do(0, "put", 0, "ab")
        self.do(1, "note", 0, 2)
        self.tells([3, 3, 0], "right", 2, 1)

    def test_500_parts(self):
        self.do(0, "put", 0, "ab")
        for t in range(1, 501):
            self.do(t, "guard", 0, 2, 0 if t == 500 else 2)
        self.tells([0, 0, 500], "right", 2, 1)
        self.tells([3, 3, 500], "right", 1, 1)
        self.tells([0, 3, 500], "right", 2, 0)

    def test_no_author(self):
        for a in (0, 100, -1, FAR, -FAR):
            self.refused(-2, "right", a, 0)

    def test_no_place(self):
        self.do(0, "put", 0, "a")
        for p in (-1, 2, FAR, -FAR):
            self.refused(-1, "right", 1, p)

    def test_author_ahead_of_place(self):
        self.refused(-2, "right", 0, 1)
        self.refused(-2, "right", 100, -1)

    def test_what_it_tells_is_what_commands_ask(self):
        self.do(0, "put", 0, "abcd")
        for t, others in ((1, 0), (2, 1), (3, 2), (4, 3)):
            self.do(t, "guard", t - 1, t + 1, others)
        self.do(0, "author", 2)
        for tracking, needed in ((1, 2), (0, 3)):
            self.do(0, "track", tracking)
            for p in range(5):
                upon, seam, parts = self.desk.do("right", 2, p)
                if upon < needed:
                    self.refused(-9, "paint", p, p + 1, 0, 1)
                else:
                    self.assertGreaterEqual(self.desk.do("paint", p, p + 1, 0, 2 - tracking)[0], 0)
                if seam < needed:
                    self.refused(-9, "put", p, "x")


class Level(DeskCase):
    def setUp(self):
        DeskCase.setUp(self)
        self.do(0, "put", 0, "abc")
        self.do(1, "guard", 0, 2, 1)

    def test_owner(self):
        self.tells(3, "level", 1, 1)

    def test_others(self):
        for level in (0, 1, 2, 3):
            self.desk.do("others", 1, level)
            self.tells(level, "level", 1, 2)
            self.tells(level, "level", 1, 99)
            self.tells(3, "level", 1, 1)

    def test_the_greater_of_grant_and_others(self):
        for others in (0, 1, 2, 3):
            self.desk.do("others", 1, others)
            for level in (0, 1, 2, 3):
                self.do(0, "grant", 1, 2, level, 0)
                self.tells(max(others, level), "level", 1, 2)

    def test_author_of_the_moment_does_not_matter(self):
        self.do(0, "author", 5)
        self.tells(3, "level", 1, 1)
        self.tells(1, "level", 1, 5)

    def test_no_part_in_force(self):
        for t in (0, 2, -1, 501, FAR, -FAR):
            self.refused(-4, "level", t, 1)
        self.do(2, "dissolve", 1)
        self.refused(-4, "level", 1, 1)

    def test_no_author(self):
        for a in (0, 100, -1, FAR, -FAR):
            self.refused(-2, "level", 1, a)

    def test_part_ahead_of_author(self):
        self.refused(-4, "level", 2, 0)
        self.refused(-4, "level", FAR, 100)

    def test_a_part_without_pieces(self):
        self.do(0, "cut", 0, 2)
        self.tells(1, "level", 1, 2)

    def test_the_last_part(self):
        for t in range(2, 501):
            self.do(t, "guard", 0, 1, 2)
        self.tells(2, "level", 500, 2)
        self.refused(-4, "level", 501, 2)


if __name__ == "__main__":
    unittest.main()
