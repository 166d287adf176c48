"""Promise 6, and promise 4 for cut."""

import unittest

from helper import FAR, DeskCase


class Cut(DeskCase):
    def setUp(self):
        DeskCase.setUp(self)
        self.do(0, "put", 0, "abcd")

    def test_tracking_off(self):
        self.do(0, "cut", 1, 3)
        self.assertEqual(self.desk.row_text(), "ad")
        self.do(0, "cut", 0, 2)
        self.assertEqual(self.desk.row_text(), "")
        self.assertEqual(self.desk.state.changes, [])

    def test_no_place(self):
        for p, q in ((-1, 2), (0, 0), (2, 1), (3, 3), (0, 5), (4, 5), (4, 4), (5, 6),
                     (-FAR, 2), (0, FAR), (-FAR, FAR), (FAR, -FAR), (FAR, FAR)):
            self.refused(-1, "cut", p, q)

    def test_last_end_stays(self):
        self.refused(-1, "cut", 0, 5)
        self.do(0, "cut", 0, 4)
        self.refused(-1, "cut", 0, 1)
        self.assertEqual(self.desk.column(0), [10])

    def test_tracking_on(self):
        self.do(0, "clock", 9)
        self.do(0, "author", 5)
        self.do(0, "track", 1)
        self.do(1, "cut", 1, 3)
        self.assertEqual(self.desk.row_text(), "a[b][c]d")
        self.assertEqual(self.desk.column(3), [[], [1], [1], [], []])
        self.assertEqual([(c.author, c.time, c.kind) for c in self.desk.state.changes], [(5, 9, 2)])
        self.do(2, "cut", 0, 2)
        self.assertEqual(self.desk.row_text(), "[a][b][c][d]")
        self.assertEqual(self.desk.column(3), [[2], [1], [1], [2], []])
        self.refused(-1, "cut", 0, 1)

    def test_own_pieces_go_though_tracking_is_on(self):
        self.do(0, "track", 1)
        self.do(1, "put", 2, "xy")
        self.do(0, "cut", 2, 3)
        self.assertEqual(self.desk.row_text(), "abycd")
        self.do(2, "cut", 1, 4)
        self.assertEqual(self.desk.row_text(), "a[b][c]d")
        self.assertEqual(len(self.desk.state.changes), 2)

    def test_pieces_of_another_author_are_not_own(self):
        self.do(0, "track", 1)
        self.do(1, "put", 2, "x")
        self.do(0, "author", 2)
        self.do(2, "cut", 2, 3)
        self.assertEqual(self.desk.row_text(), "ab[x]cd")
        self.assertEqual(self.desk.column(2)[2], [1])

    def test_last_insertion_decides_what_is_own(self):
        self.do(0, "track", 1)
        self.do(1, "put", 0, "x")
        self.do(0, "author", 2)
        self.do(2, "move", 0, 1, 3)
        self.assertEqual(self.desk.row_text(), "[x]abxcd")
        self.do(0, "author", 1)
        self.do(3, "cut", 2, 3)
        self.assertEqual(self.desk.row_text(), "[x]ab[x]cd")

    def test_own_for_who_moved_it_last(self):
        self.do(0, "track", 1)
        self.do(1, "put", 0, "x")
        self.do(0, "author", 2)
        self.do(2, "move", 0, 1, 3)
        self.do(0, "cut", 2, 3)
        self.assertEqual(self.desk.row_text(), "[x]abcd")

    def test_not_shown_pieces_within_the_stretch_stay(self):
        self.do(0, "track", 1)
        self.do(1, "cut", 1, 2)
        self.do(0, "track", 0)
        self.do(0, "cut", 0, 2)
        self.assertEqual(self.desk.row_text(), "[b]d")
        self.assertEqual(self.desk.column(3), [[1], [], []])


class Rights(DeskCase):
    def setUp(self):
        DeskCase.setUp(self)
        self.do(0, "put", 0, "abcd")

    def test_place_is_looked_at_before_rights(self):
        self.do(1, "guard", 0, 5, 0)
        self.do(0, "author", 2)
        self.refused(-1, "cut", 0, 5)
        self.refused(-9, "cut", 0, 4)

    def test_levels(self):
        for t, level, off, on in ((1, 0, -9, -9), (2, 1, -9, -9), (3, 2, -9, 1), (4, 3, 0, 2)):
            self.do(0, "author", 1)
            self.do(0, "track", 0)
            self.do(0, "put", 0, "xyz")
            self.do(t, "guard", 0, 2, level)
            self.do(0, "author", 2)
            self.do(off, "cut", 0, 1)
            self.do(0, "track", 1)
            self.do(on, "cut", 0, 1)
            self.do(0, "author", 1)
            self.desk.do("dissolve", t)

    def test_one_piece_of_a_part_is_enough(self):
        self.do(1, "guard", 2, 3, 2)
        self.do(0, "author", 2)
        self.refused(-9, "cut", 0, 3)
        self.refused(-9, "cut", 2, 4)
        self.do(0, "cut", 3, 4)
        self.do(0, "cut", 0, 2)
        self.assertEqual(self.desk.row_text(), "c")

    def test_each_of_several_parts_is_guarded(self):
        for t in (1, 2, 3, 4):
            self.do(t, "guard", t - 1, t, 0 if t % 2 else 2)
        self.do(0, "author", 2)
        for p in (0, 1, 2, 3):
            self.refused(-9, "cut", p, p + 1)
        self.do(0, "track", 1)
        self.do(1, "cut", 3, 4)
        self.do(2, "cut", 1, 2)
        self.refused(-9, "cut", 0, 1)
        self.refused(-9, "cut", 1, 2)

    def test_own_pieces_in_a_part_are_guarded_too(self):
        self.do(1, "guard", 0, 4, 2)
        self.do(0, "author", 2)
        self.do(0, "track", 1)
        self.do(1, "put", 2, "x")
        self.do(0, "track", 0)
        self.refused(-9, "cut", 2, 3)
        self.do(0, "track", 1)
        self.do(0, "cut", 2, 3)

    def test_parts_of_pieces_not_shown_do_not_matter(self):
        self.do(1, "guard", 1, 2, 0)
        self.do(0, "track", 1)
        self.do(1, "cut", 1, 2)
        self.do(0, "author", 2)
        self.do(2, "cut", 0, 2)
        self.assertEqual(self.desk.row_text(), "[a][b][c]d")
        self.assertEqual(self.desk.column(3), [[2], [1], [2], [], []])

    def test_owner_of_one_part_lacks_the_right_in_another(self):
        self.do(1, "guard", 0, 2, 3)
        self.do(0, "author", 2)
        self.do(2, "guard", 1, 3, 0)
        self.do(0, "author", 1)
        self.refused(-9, "cut", 1, 2)
        self.do(0, "cut", 0, 1)
        self.do(0, "author", 2)
        self.do(0, "cut", 0, 1)
        self.assertEqual(self.desk.row_text(), "cd")


if __name__ == "__main__":
    unittest.main()
