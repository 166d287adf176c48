"""Promise 8, and promise 4 for move."""

import unittest

from helper import FAR, DeskCase


class Move(DeskCase):
    def setUp(self):
        DeskCase.setUp(self)
        self.do(0, "put", 0, "abcdef")

    def test_onwards_and_back(self):
        self.do(0, "move", 1, 3, 5)
        self.assertEqual(self.desk.row_text(), "adebcf")
        self.do(0, "move", 3, 5, 0)
        self.assertEqual(self.desk.row_text(), "bcadef")
        self.do(0, "move", 0, 1, 6)
        self.assertEqual(self.desk.row_text(), "cadefb")
        self.do(0, "move", 5, 6, 4)
        self.assertEqual(self.desk.row_text(), "cadebf")
        self.do(0, "move", 0, 1, 2)
        self.assertEqual(self.desk.row_text(), "acdebf")
        self.assertEqual(self.desk.state.changes, [])

    def test_no_place(self):
        for p, q, r in ((-1, 2, 4), (0, 0, 4), (2, 1, 4), (0, 7, 0), (6, 7, 0), (0, 2, 7), (0, 2, -1),
                        (3, 3, 3), (-FAR, 2, 4), (0, FAR, 4), (0, 1, FAR), (0, 1, -FAR), (FAR, -FAR, 0)):
            self.refused(-1, "move", p, q, r)

    def test_onto_itself(self):
        for p, q, r in ((1, 3, 1), (1, 3, 2), (1, 3, 3), (0, 6, 0), (0, 6, 6), (5, 6, 6)):
            self.refused(-3, "move", p, q, r)

    def test_order_of_refusals(self):
        self.do(1, "guard", 0, 7, 0)
        self.do(0, "author", 2)
        self.refused(-1, "move", 0, 7, 3)
        self.refused(-1, "move", 0, 1, 7)
        self.refused(-3, "move", 1, 3, 2)
        self.refused(-9, "move", 1, 3, 4)

    def test_tracking_on(self):
        self.do(0, "clock", 6)
        self.do(0, "author", 8)
        self.do(0, "track", 1)
        self.do(1, "move", 1, 3, 5)
        self.assertEqual(self.desk.row_text(), "a[b][c]debcf")
        self.assertEqual(self.desk.column(2), [[], [], [], [], [], [1], [1], [], []])
        self.assertEqual(self.desk.column(3), [[], [1], [1], [], [], [], [], [], []])
        self.assertEqual([(c.author, c.time, c.kind) for c in self.desk.state.changes], [(8, 6, 4)])

    def test_tracking_on_backwards(self):
        self.do(0, "track", 1)
        self.do(1, "move", 4, 6, 0)
        self.assertEqual(self.desk.row_text(), "efabcd[e][f]")

    def test_own_pieces_come_over_themselves(self):
        self.do(0, "track", 1)
        self.do(1, "put", 1, "xy")
        self.do(0, "move", 1, 2, 5)
        self.assertEqual(self.desk.row_text(), "aybcxdef")
        self.do(2, "move", 0, 2, 8)
        self.assertEqual(self.desk.row_text(), "[a]bcxdefay")
        self.assertEqual(self.desk.column(2)[-3:], [[2], [1], []])

    def test_insertions_are_added_behind(self):
        self.do(0, "track", 1)
        self.do(1, "put", 0, "x")
        self.do(0, "author", 2)
        self.do(2, "move", 0, 1, 2)
        self.do(0, "author", 3)
        self.do(3, "move", 1, 2, 3)
        self.assertEqual(self.desk.row_text(), "[x]a[x]bxcdef")
        self.assertEqual(self.desk.column(2)[:5], [[1], [], [1, 2], [], [1, 2, 3]])
        self.assertEqual(self.desk.column(3)[:5], [[2], [], [3], [], []])

    def test_copy_has_looks_and_tags(self):
        self.do(1, "guard", 0, 2, 0)
        self.do(0, "paint", 0, 1, 3, 4)
        self.do(0, "track", 1)
        self.do(1, "paint", 0, 1, 2, 5)
        self.do(2, "move", 0, 1, 4)
        self.assertEqual(self.desk.row_text(), "[a]bcdaef")
        old, new = self.desk.pieces()[0], self.desk.pieces()[4]
        self.assertEqual(old, (97, [0, 0, 0, 4], [], [2], [[1, 2, 5]], [1]))
        self.assertEqual(new, (97, [0, 0, 0, 4], [2], [], [[1, 2, 5]], [1]))

    def test_copy_shows_the_same_look(self):
        self.do(0, "track", 1)
        self.do(1, "paint", 0, 1, 2, 5)
        self.do(0, "author", 2)
        self.do(2, "move", 0, 1, 4)
        self.do(0, "author", 3)
        self.do(0, "paint", 3, 4, 2, 5)
        self.do(3, "put", 4, "x")
        self.assertEqual(self.desk.column(1)[5], [0, 0, 5, 0])

    def test_copy_and_original_part_ways(self):
        self.do(0, "track", 1)
        self.do(1, "move", 0, 1, 3)
        self.do(0, "paint", 2, 3, 0, 7)
        self.do(1, "guard", 2, 3, 0)
        self.assertEqual(self.desk.row_text(), "[a]bcadef")
        self.assertEqual(self.desk.pieces()[0], (97, [0, 0, 0, 0], [], [1], [], []))
        self.assertEqual(self.desk.pieces()[3], (97, [7, 0, 0, 0], [1], [], [], [1]))

    def test_pieces_not_shown_stay_where_they_stand(self):
        self.do(0, "track", 1)
        self.do(1, "cut", 1, 2)
        self.do(2, "cut", 3, 4)
        self.assertEqual(self.desk.row_text(), "a[b]cd[e]f")
        self.do(0, "track", 0)
        self.do(0, "move", 0, 2, 3)
        self.assertEqual(self.desk.row_text(), "[b]d[e]acf")
        self.do(0, "move", 2, 3, 0)
        self.assertEqual(self.desk.row_text(), "[b]cd[e]af")

    def test_before_a_place_directly_behind_the_next(self):
        self.do(0, "track", 1)
        self.do(1, "cut", 2, 3)
        self.do(2, "move", 0, 1, 2)
        self.assertEqual(self.desk.row_text(), "[a]b[c]adef")


class Parts(DeskCase):
    def setUp(self):
        DeskCase.setUp(self)
        self.do(0, "put", 0, "abcdef")

    def test_parts_come_along(self):
        self.do(1, "guard", 0, 2, 0)
        self.do(0, "move", 0, 1, 4)
        self.assertEqual(self.desk.row_text(), "bcdaef")
        self.assertEqual(self.desk.column(5), [[1], [], [], [1], [], [], []])

    def test_parts_of_the_seam_are_added(self):
        self.do(1, "guard", 3, 5, 0)
        self.do(2, "guard", 0, 1, 0)
        self.do(0, "move", 0, 2, 4)
        self.assertEqual(self.desk.row_text(), "cdabef")
        self.assertEqual(self.desk.column(5), [[], [1], [1, 2], [1], [1], [], []])

    def test_parts_of_the_seam_are_added_to_copies_alone(self):
        self.do(1, "guard", 3, 5, 0)
        self.do(0, "track", 1)
        self.do(1, "move", 0, 1, 4)
        self.assertEqual(self.desk.row_text(), "[a]bcdaef")
        self.assertEqual(self.desk.column(5), [[], [], [], [1], [1], [1], [], []])

    def test_parts_of_the_seam_are_added_to_own_pieces(self):
        self.do(1, "guard", 3, 5, 0)
        self.do(0, "track", 1)
        self.do(1, "put", 0, "x")
        self.do(0, "move", 0, 1, 5)
        self.assertEqual(self.desk.column(5), [[], [], [], [1], [1], [1], [], []])

    def test_notes_of_the_seam_are_not_added(self):
        self.do(1, "note", 3, 5)
        self.do(2, "note", 0, 1)
        self.do(0, "move", 0, 1, 4)
        self.assertEqual(self.desk.column(5), [[], [], [501], [502], [501], [], []])

    def test_piece_not_shown_at_the_seam(self):
        self.do(1, "guard", 3, 5, 0)
        self.do(0, "track", 1)
        self.do(1, "cut", 3, 4)
        self.do(0, "author", 2)
        self.refused(-9, "move", 0, 1, 3)
        self.do(0, "author", 1)
        self.do(2, "move", 0, 1, 3)
        self.assertEqual(self.desk.row_text(), "[a]bc[d]aef")
        self.assertEqual(self.desk.column(5), [[], [], [], [1], [1], [1], [], []])

    def test_seam_as_it_is_before_the_call(self):
        self.do(1, "guard", 1, 4, 3)
        self.do(2, "guard", 1, 2, 3)
        self.do(0, "move", 2, 3, 1)
        self.assertEqual(self.desk.row_text(), "acbdef")
        self.assertEqual(self.desk.column(5), [[], [1], [1, 2], [1], [], [], []])

    def test_no_parts_at_the_beginning(self):
        self.do(1, "guard", 0, 2, 0)
        self.do(0, "author", 2)
        self.do(0, "move", 4, 5, 0)
        self.assertEqual(self.desk.row_text(), "eabcdf")
        self.assertEqual(self.desk.column(5)[0], [])

    def test_right_upon_the_stretch(self):
        self.do(1, "guard", 1, 2, 2)
        self.do(0, "author", 2)
        self.refused(-9, "move", 0, 3, 5)
        self.refused(-9, "move", 1, 2, 0)
        self.do(0, "move", 2, 3, 0)
        self.assertEqual(self.desk.row_text(), "cabdef")
        self.do(0, "track", 1)
        self.do(1, "move", 1, 4, 5)
        self.assertEqual(self.desk.row_text(), "c[a][b][d]eabdf")

    def test_right_at_the_seam(self):
        self.do(1, "guard", 1, 3, 2)
        self.do(0, "author", 2)
        self.refused(-9, "move", 4, 5, 2)
        self.do(0, "move", 4, 5, 1)
        self.do(0, "move", 5, 6, 4)
        self.assertEqual(self.desk.row_text(), "aebcfd")
        self.do(0, "track", 1)
        self.do(1, "move", 5, 6, 3)
        self.assertEqual(self.desk.row_text(), "aebdcf[d]")
        self.assertEqual(self.desk.column(5), [[], [], [1], [1], [1], [], [], []])

    def test_level_1_does_not_move(self):
        self.do(1, "guard", 1, 3, 1)
        self.do(0, "author", 2)
        self.do(0, "track", 1)
        self.refused(-9, "move", 4, 5, 2)
        self.refused(-9, "move", 1, 2, 5)


if __name__ == "__main__":
    unittest.main()
