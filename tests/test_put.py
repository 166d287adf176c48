"""Promise 5, and promise 4 for put."""

import unittest

from helper import FAR, DeskCase


class Put(DeskCase):
    def test_before_the_last_end(self):
        self.do(0, "put", 0, "abc")
        self.do(0, "put", 3, "d")
        self.do(0, "put", 0, "e")
        self.do(0, "put", 2, "fg")
        self.assertEqual(self.desk.row_text(), "eafgbcd")

    def test_no_place(self):
        for p in (-1, 1, FAR, -FAR):
            self.refused(-1, "put", p, "a")
        self.do(0, "put", 0, "ab")
        self.refused(-1, "put", 3, "a")
        self.do(0, "put", 2, "c")

    def test_no_sign(self):
        for number in (9, 11, 31, 127, 0, -1, -10, FAR, -FAR):
            self.refused(-2, "put", 0, [number])
            self.refused(-2, "put", 0, [65, number])
            self.refused(-2, "put", 0, [number, 65])
        self.refused(-2, "put", 0, [])

    def test_smallest_and_greatest_sign(self):
        self.do(0, "put", 0, [10, 32, 126, 10])
        self.assertEqual(self.desk.column(0), [10, 32, 126, 10, 10])

    def test_place_is_looked_at_before_signs(self):
        self.refused(-1, "put", 1, [])
        self.refused(-1, "put", -1, [9])

    def test_signs_are_looked_at_before_rights(self):
        self.do(0, "put", 0, "ab")
        self.do(1, "guard", 0, 2, 0)
        self.do(0, "author", 2)
        self.refused(-1, "put", 3, "")
        self.refused(-2, "put", 1, "")
        self.refused(-2, "put", 1, [127])
        self.refused(-9, "put", 1, "x")

    def test_tracking_on_enters_a_change(self):
        self.do(0, "clock", 4)
        self.do(0, "author", 3)
        self.do(0, "track", 1)
        self.do(1, "put", 0, "ab")
        self.do(2, "put", 1, "c")
        self.assertEqual(self.desk.column(2), [[1], [2], [1], []])
        self.assertEqual([(c.author, c.time, c.kind) for c in self.desk.state.changes], [(3, 4, 1), (3, 4, 1)])

    def test_tracking_off_enters_none(self):
        self.do(0, "put", 0, "ab")
        self.assertEqual(self.desk.column(2), [[], [], []])
        self.assertEqual(self.desk.state.changes, [])

    def test_behind_all_that_is_not_shown(self):
        self.do(0, "put", 0, "abc")
        self.do(0, "track", 1)
        self.do(1, "cut", 0, 2)
        self.do(2, "put", 0, "x")
        self.assertEqual(self.desk.row_text(), "[a][b]xc")
        self.do(3, "put", 0, "y")
        self.assertEqual(self.desk.row_text(), "[a][b]yxc")

    def test_2000_signs(self):
        self.do(0, "put", 0, [65] * 2000)
        self.do(0, "put", 2000, [66] * 2000)
        self.do(0, "put", 2000, [10] * 2000)
        self.assertEqual(self.desk.column(0), [65] * 2000 + [10] * 2000 + [66] * 2000 + [10])
        self.refused(-1, "put", 6001, "a")
        self.refused(-2, "put", 6000, [65] * 1999 + [127])


class Looks(DeskCase):
    def test_of_the_piece_before(self):
        self.do(0, "put", 0, "ab")
        self.do(0, "paint", 0, 1, 1, 99)
        self.do(0, "paint", 1, 2, 2, 5)
        self.do(0, "put", 1, "xy")
        self.assertEqual(self.desk.column(1)[:4], [[0, 99, 0, 0], [0, 99, 0, 0], [0, 99, 0, 0], [0, 0, 5, 0]])

    def test_plain_at_the_beginning_and_behind_an_end(self):
        self.do(0, "put", 0, "a\nb")
        self.do(0, "paint", 0, 4, 3, 7)
        self.do(0, "put", 0, "x")
        self.do(0, "put", 3, "y")
        self.assertEqual(self.desk.row_text(), "xa\nyb")
        self.assertEqual([look[3] for look in self.desk.column(1)], [0, 7, 7, 0, 7, 7])

    def test_of_the_next_end(self):
        self.do(0, "put", 0, "a\nb")
        self.do(0, "paint", 1, 2, 0, 3)
        self.do(0, "paint", 3, 4, 0, 4)
        self.do(0, "put", 0, "\nx\n")
        self.assertEqual([look[0] for look in self.desk.column(1)], [3, 0, 3, 0, 3, 0, 4])
        self.do(0, "put", 4, "\n")
        self.assertEqual([look[0] for look in self.desk.column(1)], [3, 0, 3, 0, 3, 3, 0, 4])
        self.do(0, "put", 6, "\n")
        self.assertEqual([look[0] for look in self.desk.column(1)], [3, 0, 3, 0, 3, 3, 4, 0, 4])

    def test_of_pieces_as_shown(self):
        self.do(0, "put", 0, "a")
        self.do(0, "paint", 0, 2, 1, 1)
        self.do(0, "track", 1)
        self.do(1, "paint", 0, 2, 1, 8)
        self.do(2, "paint", 0, 2, 2, 9)
        self.do(3, "paint", 0, 2, 1, 7)
        self.do(4, "put", 1, "x\n")
        self.assertEqual(self.desk.column(1), [[0, 1, 0, 0], [0, 7, 9, 0], [0, 7, 9, 0], [0, 1, 0, 0]])
        self.assertEqual(self.desk.column(4)[1:3], [[], []])

    def test_pieces_not_shown_lend_no_look(self):
        self.do(0, "put", 0, "ab\nc")
        self.do(0, "paint", 1, 3, 1, 5)
        self.do(0, "track", 1)
        self.do(1, "cut", 1, 3)
        self.do(2, "put", 1, "x\n")
        self.assertEqual(self.desk.row_text(), "a[b][\n]x\nc")
        self.assertEqual([look[1] for look in self.desk.column(1)], [0, 5, 5, 0, 0, 0, 0])

    def test_shown_end_before_decides_not_the_one_not_shown(self):
        self.do(0, "put", 0, "a\nb")
        self.do(0, "paint", 0, 1, 1, 5)
        self.do(0, "track", 1)
        self.do(1, "cut", 1, 2)
        self.do(2, "put", 1, "x")
        self.assertEqual(self.desk.column(1)[2], [0, 5, 0, 0])


class Tags(DeskCase):
    def test_between_two_of_a_part(self):
        self.do(0, "put", 0, "abcd")
        self.do(1, "guard", 1, 3, 3)
        self.do(0, "put", 1, "x")
        self.do(0, "put", 3, "y")
        self.do(0, "put", 5, "z")
        self.assertEqual(self.desk.row_text(), "axbyczd")
        self.assertEqual(self.desk.column(5), [[], [], [1], [1], [1], [], [], []])

    def test_none_at_the_beginning(self):
        self.do(0, "put", 0, "ab")
        self.do(1, "guard", 0, 3, 0)
        self.do(0, "author", 2)
        self.do(0, "put", 0, "x")
        self.assertEqual(self.desk.column(5), [[], [1], [1], [1]])

    def test_parts_over_one_another(self):
        self.do(0, "put", 0, "abcd")
        self.do(1, "guard", 0, 3, 3)
        self.do(2, "guard", 1, 4, 3)
        self.do(3, "guard", 2, 3, 3)
        for place in (4, 3, 2, 1):
            self.do(0, "put", place, "x")
        self.assertEqual(self.desk.row_text(), "axbxcxdx")
        self.assertEqual(
            self.desk.column(5),
            [[1], [1], [1, 2], [1, 2], [1, 2, 3], [2], [2], [], []],
        )

    def test_piece_not_shown_at_the_seam(self):
        self.do(0, "put", 0, "abc")
        self.do(1, "guard", 1, 3, 0)
        self.do(0, "track", 1)
        self.do(1, "cut", 1, 2)
        self.do(0, "track", 0)
        self.do(0, "author", 2)
        self.refused(-9, "put", 1, "x")
        self.do(0, "author", 1)
        self.do(0, "put", 1, "x")
        self.assertEqual(self.desk.row_text(), "a[b]xc")
        self.assertEqual(self.desk.column(5), [[], [1], [1], [1], []])

    def test_piece_not_shown_at_the_very_beginning(self):
        self.do(0, "put", 0, "ab")
        self.do(1, "guard", 0, 2, 1)
        self.do(0, "track", 1)
        self.do(1, "cut", 0, 1)
        self.do(0, "author", 2)
        self.refused(-9, "put", 0, "x")
        self.do(0, "author", 1)
        self.do(2, "put", 0, "x")
        self.assertEqual(self.desk.column(5), [[1], [1], [1], []])

    def test_only_the_nearest_piece_not_shown_counts(self):
        self.do(0, "put", 0, "abdc")
        self.do(1, "guard", 1, 3, 0)
        self.do(0, "move", 2, 3, 4)
        self.do(0, "track", 1)
        self.do(1, "cut", 1, 3)
        self.assertEqual(self.desk.row_text(), "a[b][c]d")
        self.assertEqual(self.desk.column(5), [[], [1], [], [1], []])
        self.do(0, "author", 2)
        self.do(2, "put", 1, "x")
        self.assertEqual(self.desk.row_text(), "a[b][c]xd")
        self.assertEqual(self.desk.column(5), [[], [1], [], [], [1], []])

    def test_only_the_nearest_piece_shown_counts(self):
        self.do(0, "put", 0, "abdc")
        self.do(1, "guard", 1, 3, 0)
        self.do(0, "move", 2, 3, 4)
        self.assertEqual(self.desk.column(5), [[], [1], [], [1], []])
        self.do(0, "author", 2)
        self.do(0, "put", 3, "x")
        self.do(0, "put", 2, "y")
        self.assertEqual(self.desk.row_text(), "abycxd")
        self.assertEqual(self.desk.column(5), [[], [1], [], [], [], [1], []])

    def test_shown_neighbours_count_over_one_not_shown(self):
        self.do(0, "put", 0, "acbd")
        self.do(1, "guard", 0, 2, 0)
        self.do(0, "move", 1, 2, 4)
        self.do(0, "track", 1)
        self.do(1, "cut", 1, 2)
        self.do(0, "track", 0)
        self.do(0, "move", 2, 3, 1)
        self.assertEqual(self.desk.row_text(), "a[b]cd")
        self.assertEqual(self.desk.column(5), [[1], [], [1], [], []])
        self.do(0, "author", 2)
        self.refused(-9, "put", 1, "x")
        self.do(0, "author", 1)
        self.do(0, "put", 1, "x")
        self.assertEqual(self.desk.row_text(), "a[b]xcd")
        self.assertEqual(self.desk.column(5), [[1], [], [1], [1], [], []])

    def test_notes_of_both_shown_neighbours(self):
        self.do(0, "put", 0, "abc")
        self.do(1, "note", 0, 2)
        self.do(2, "note", 1, 3)
        self.do(0, "put", 1, "x")
        self.do(0, "put", 3, "y")
        self.assertEqual(self.desk.column(5), [[501], [501], [501, 502], [502], [502], []])

    def test_no_notes_of_pieces_not_shown(self):
        self.do(0, "put", 0, "abc")
        self.do(1, "guard", 0, 3, 0)
        self.do(1, "note", 1, 3)
        self.do(0, "track", 1)
        self.do(1, "cut", 1, 2)
        self.do(2, "put", 1, "x")
        self.assertEqual(self.desk.column(5), [[1], [1, 501], [1], [1, 501], []])


class Rights(DeskCase):
    def setUp(self):
        DeskCase.setUp(self)
        self.do(0, "put", 0, "abcd")

    def test_needed_is_3_with_tracking_off(self):
        for t, level, answer in ((1, 0, -9), (2, 1, -9), (3, 2, -9), (4, 3, 0)):
            self.do(0, "author", 1)
            self.do(t, "guard", 1, 3, level)
            self.do(0, "author", 2)
            self.do(answer, "put", 2, "x")
            self.do(0, "author", 1)
            self.assertEqual(self.desk.do("dissolve", t), [3 if answer == 0 else 2])

    def test_needed_is_2_with_tracking_on(self):
        self.do(0, "track", 1)
        for t, level, answer in ((1, 0, -9), (2, 1, -9), (3, 2, 1), (4, 3, 2)):
            self.do(0, "author", 1)
            self.do(t, "guard", 1, 3, level)
            self.do(0, "author", 2)
            self.do(answer, "put", 2, "x")
            self.do(0, "author", 1)
            self.assertEqual(self.desk.do("dissolve", t)[0] >= 2, True)

    def test_least_level_of_parts_over_one_another(self):
        self.do(1, "guard", 0, 4, 3)
        self.do(2, "guard", 1, 3, 2)
        self.do(3, "guard", 0, 2, 3)
        self.do(0, "author", 2)
        self.do(0, "put", 1, "x")
        self.refused(-9, "put", 3, "x")
        self.do(0, "track", 1)
        self.do(1, "put", 3, "x")

    def test_seams_at_the_rim_are_free(self):
        self.do(1, "guard", 1, 3, 0)
        self.do(0, "author", 2)
        self.do(0, "put", 3, "y")
        self.do(0, "put", 1, "x")
        self.refused(-9, "put", 3, "z")
        self.assertEqual(self.desk.row_text(), "axbcyd")

    def test_grant_gives_the_right(self):
        self.do(1, "guard", 1, 3, 0)
        self.do(0, "grant", 1, 2, 2, 0)
        self.do(0, "author", 2)
        self.refused(-9, "put", 2, "x")
        self.do(0, "track", 1)
        self.do(1, "put", 2, "x")
        self.do(0, "author", 3)
        self.refused(-9, "put", 2, "x")

    def test_lesser_grant_takes_nothing(self):
        self.do(1, "guard", 1, 3, 3)
        self.do(0, "grant", 1, 2, 0, 0)
        self.do(0, "author", 2)
        self.do(0, "put", 2, "x")


if __name__ == "__main__":
    unittest.main()
