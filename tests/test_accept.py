"""Promise 15: accept."""

import unittest

from helper import FAR, DeskCase


class Insertions(DeskCase):
    def test_put(self):
        self.do(0, "put", 0, "ab")
        self.do(0, "track", 1)
        self.do(1, "put", 1, "xy")
        self.do(2, "put", 0, "z")
        self.assertEqual(self.desk.column(2), [[2], [], [1], [1], [], []])
        self.do(2, "accept", 1)
        self.assertEqual(self.desk.column(2), [[2], [], [], [], [], []])
        self.assertEqual(self.desk.row_text(), "zaxyb")

    def test_own_no_longer(self):
        self.do(0, "track", 1)
        self.do(1, "put", 0, "ab")
        self.do(0, "cut", 0, 1)
        self.do(1, "accept", 1)
        self.do(2, "cut", 0, 1)
        self.assertEqual(self.desk.row_text(), "[b]")

    def test_own_by_the_last_insertion_that_is_left(self):
        self.do(0, "track", 1)
        self.do(1, "put", 0, "ab")
        self.do(0, "author", 2)
        self.do(2, "move", 0, 1, 2)
        self.assertEqual(self.desk.column(2), [[1], [1], [1, 2], []])
        self.do(2, "accept", 2)
        self.assertEqual(self.desk.column(2), [[1], [1], []])
        self.do(0, "author", 1)
        self.do(0, "cut", 1, 2)
        self.assertEqual(self.desk.row_text(), "b")

    def test_piece_that_is_not_shown(self):
        self.do(0, "track", 1)
        self.do(1, "put", 0, "ab")
        self.do(0, "author", 2)
        self.do(2, "cut", 0, 1)
        self.do(2, "accept", 1)
        self.assertEqual(self.desk.row_text(), "[a]b")
        self.assertEqual(self.desk.column(2), [[], [], []])
        self.assertEqual(self.desk.column(3), [[2], [], []])


class Deletions(DeskCase):
    def test_cut(self):
        self.do(0, "put", 0, "abcde")
        self.do(0, "track", 1)
        self.do(1, "cut", 1, 3)
        self.do(2, "cut", 2, 3)
        self.assertEqual(self.desk.row_text(), "a[b][c]d[e]")
        self.do(2, "accept", 1)
        self.assertEqual(self.desk.row_text(), "ad[e]")
        self.do(1, "accept", 2)
        self.assertEqual(self.desk.row_text(), "ad")

    def test_places_afterwards(self):
        self.do(0, "put", 0, "abcd")
        self.do(0, "track", 1)
        self.do(1, "cut", 0, 1)
        self.do(2, "cut", 1, 2)
        self.assertEqual(self.desk.row_text(), "[a]b[c]d")
        self.do(1, "accept", 1)
        self.do(3, "put", 1, "x")
        self.assertEqual(self.desk.row_text(), "b[c]xd")
        self.do(4, "put", 0, "y")
        self.assertEqual(self.desk.row_text(), "yb[c]xd")

    def test_seam_without_the_piece_that_went(self):
        self.do(0, "put", 0, "abc")
        self.do(1, "guard", 1, 3, 0)
        self.do(0, "put", 1, "x")
        self.do(0, "track", 1)
        self.do(1, "cut", 2, 3)
        self.tells([0, 0, 1], "right", 2, 2)
        self.do(1, "accept", 1)
        self.tells([0, 3, 1], "right", 2, 2)

    def test_everything_but_the_last_end(self):
        self.do(0, "put", 0, "ab\n")
        self.do(0, "track", 1)
        self.do(1, "cut", 0, 3)
        self.do(3, "accept", 1)
        self.tells([1, 10, 0, 0, 0, 0, 0, 0, 0, 0], "row")


class Moves(DeskCase):
    def test_originals_go_and_copies_stay(self):
        self.do(0, "put", 0, "abcd")
        self.do(0, "track", 1)
        self.do(1, "move", 0, 2, 3)
        self.assertEqual(self.desk.row_text(), "[a][b]cabd")
        self.do(4, "accept", 1)
        self.assertEqual(self.desk.row_text(), "cabd")
        self.assertEqual(self.desk.column(2), [[]] * 5)

    def moved_three_times(self):
        """b goes behind c, then behind d, then to the front."""
        self.do(0, "put", 0, "abcd")
        self.do(0, "track", 1)
        self.do(1, "move", 1, 2, 3)
        self.do(0, "author", 2)
        self.do(2, "move", 2, 3, 4)
        self.do(0, "author", 1)
        self.do(3, "move", 3, 4, 0)
        self.assertEqual(self.desk.row_text(), "ba[b]c[b]d[b]")
        self.assertEqual(self.desk.column(2), [[1, 2, 3], [], [], [], [1], [], [1, 2], []])
        self.assertEqual(self.desk.column(3), [[], [], [1], [], [2], [], [3], []])

    def test_first_of_several_moves(self):
        self.moved_three_times()
        self.do(4, "accept", 1)
        self.assertEqual(self.desk.row_text(), "bac[b]d[b]")
        self.assertEqual(self.desk.column(2), [[2, 3], [], [], [], [], [2], []])

    def test_middle_of_several_moves(self):
        self.moved_three_times()
        self.do(3, "accept", 2)
        self.assertEqual(self.desk.row_text(), "ba[b]cd[b]")
        self.assertEqual(self.desk.column(2), [[1, 3], [], [], [], [], [1], []])

    def test_last_of_several_moves(self):
        self.moved_three_times()
        self.do(2, "accept", 3)
        self.assertEqual(self.desk.row_text(), "ba[b]c[b]d")
        self.assertEqual(self.desk.column(2), [[1, 2], [], [], [], [1], [], []])

    def test_all_of_several_moves(self):
        self.moved_three_times()
        self.do(2, "accept", 3)
        self.do(2, "accept", 2)
        self.do(2, "accept", 1)
        self.assertEqual(self.desk.row_text(), "bacd")
        self.assertEqual(self.desk.column(2), [[]] * 5)
        for c in (1, 2, 3):
            self.do(0, "accept", c)


class PendingLooks(DeskCase):
    def setUp(self):
        DeskCase.setUp(self)
        self.do(0, "put", 0, "ab")
        self.do(0, "track", 1)

    def test_paint(self):
        self.do(1, "paint", 0, 2, 2, 7)
        self.do(2, "accept", 1)
        self.assertEqual(self.desk.column(1), [[0, 0, 7, 0], [0, 0, 7, 0], [0, 0, 0, 0]])
        self.assertEqual(self.desk.column(4), [[], [], []])
        self.assertEqual(self.desk.looks(), [[0, 0, 7, 0], [0, 0, 7, 0], [0, 0, 0, 0]])

    def several(self):
        """Three pending looks for the property 1, with others for the properties 0 and 3 between them."""
        for c, k, v in ((1, 1, 5), (2, 0, 6), (3, 1, 7), (4, 3, 8), (5, 1, 9)):
            self.do(c, "paint", 0, 1, k, v)
        self.assertEqual(self.desk.looks()[0], [6, 9, 0, 8])

    def test_first_for_one_property(self):
        self.several()
        self.do(1, "accept", 1)
        self.assertEqual(self.desk.column(1)[0], [0, 5, 0, 0])
        self.assertEqual(self.desk.column(4)[0], [[2, 0, 6], [3, 1, 7], [4, 3, 8], [5, 1, 9]])
        self.assertEqual(self.desk.looks()[0], [6, 9, 0, 8])

    def test_middle_for_one_property(self):
        self.several()
        self.do(1, "accept", 3)
        self.assertEqual(self.desk.column(1)[0], [0, 7, 0, 0])
        self.assertEqual(self.desk.column(4)[0], [[2, 0, 6], [4, 3, 8], [5, 1, 9]])
        self.assertEqual(self.desk.looks()[0], [6, 9, 0, 8])
        self.tells([1, 0, 3, 0], "change", 1)
        self.tells([1, 0, 3, 0], "change", 3)

    def test_last_for_one_property(self):
        self.several()
        self.do(1, "accept", 5)
        self.assertEqual(self.desk.column(1)[0], [0, 9, 0, 0])
        self.assertEqual(self.desk.column(4)[0], [[2, 0, 6], [4, 3, 8]])
        self.assertEqual(self.desk.looks()[0], [6, 9, 0, 8])

    def test_one_between(self):
        self.several()
        self.do(1, "accept", 4)
        self.assertEqual(self.desk.column(1)[0], [0, 0, 0, 8])
        self.assertEqual(self.desk.column(4)[0], [[1, 1, 5], [2, 0, 6], [3, 1, 7], [5, 1, 9]])
        self.assertEqual(self.desk.looks()[0], [6, 9, 0, 8])

    def test_the_last_end(self):
        self.do(1, "paint", 2, 3, 0, 4)
        self.do(1, "accept", 1)
        self.assertEqual(self.desk.column(1), [[0, 0, 0, 0], [0, 0, 0, 0], [4, 0, 0, 0]])
        self.tells([3, 97, 0, 0, 0, 0, 98, 0, 0, 0, 0, 10, 4, 0, 0, 0], "text", 2)

    def test_the_look_of_what_is_put_next_to_it(self):
        self.several()
        self.do(1, "accept", 3)
        self.do(6, "put", 1, "x")
        self.assertEqual(self.desk.column(1)[1], [6, 9, 0, 8])
        self.do(7, "paint", 3, 4, 2, 3)
        self.do(1, "accept", 7)
        self.do(8, "put", 1, "\n")
        self.assertEqual(self.desk.column(1)[1], [0, 0, 3, 0])

    def test_painting_behind_an_accept(self):
        self.do(1, "paint", 0, 1, 0, 5)
        self.do(1, "accept", 1)
        self.do(0, "paint", 0, 1, 0, 5)
        self.do(2, "paint", 0, 1, 0, 0)
        self.assertEqual(self.desk.column(4)[0], [[2, 0, 0]])

    def test_copies_and_originals(self):
        self.do(1, "paint", 0, 1, 0, 5)
        self.do(2, "move", 0, 1, 2)
        self.assertEqual(self.desk.row_text(), "[a]ba")
        self.do(2, "accept", 1)
        self.assertEqual(self.desk.column(1), [[5, 0, 0, 0], [0, 0, 0, 0], [5, 0, 0, 0], [0, 0, 0, 0]])
        self.assertEqual(self.desk.column(4), [[]] * 4)

    def test_different_pieces_bear_it_differently(self):
        """Change 2, a move, is among deletions here and insertions there, beside pending looks of change 1."""
        self.do(1, "paint", 0, 2, 3, 1)
        self.do(2, "move", 0, 1, 2)
        self.do(0, "author", 2)
        self.do(3, "paint", 1, 2, 3, 2)
        self.do(2, "accept", 2)
        self.assertEqual(self.desk.row_text(), "ba")
        self.assertEqual(self.desk.column(2), [[], [], []])
        self.assertEqual(self.desk.column(4), [[[1, 3, 1]], [[1, 3, 1], [3, 3, 2]], []])
        self.do(2, "accept", 1)
        self.assertEqual(self.desk.column(1), [[0, 0, 0, 1], [0, 0, 0, 1], [0, 0, 0, 0]])
        self.assertEqual(self.desk.column(4), [[], [[3, 3, 2]], []])


class RightsAndRefusals(DeskCase):
    def test_no_change_entered(self):
        for c in (1, 0, -1, FAR, -FAR):
            self.refused(-4, "accept", c)

    def test_first_and_last_change(self):
        self.do(0, "track", 1)
        for c in range(1, 5):
            self.do(c, "put", 0, "a")
        for c in (0, 5, -1, FAR, -FAR):
            self.refused(-4, "accept", c)
        self.do(1, "accept", 1)
        self.do(1, "accept", 4)
        self.assertEqual(self.desk.column(2), [[], [3], [2], [], []])

    def test_when_no_piece_bears_it_any_more(self):
        self.do(0, "track", 1)
        self.do(1, "put", 0, "ab")
        self.do(2, "accept", 1)
        self.tells(0, "accept", 1)
        self.tells(0, "reject", 1)
        self.do(1, "guard", 0, 3, 0)
        self.do(0, "author", 2)
        self.tells(0, "accept", 1)

    def levels(self, level):
        """Author 2 has this level in part 1, over b, which bears change 1 together with a."""
        self.do(0, "put", 0, "abc")
        self.do(1, "guard", 1, 2, 0)
        self.do(0, "track", 1)
        self.do(1, "paint", 0, 2, 0, 5)
        self.do(0, "grant", 1, 2, level, 0)
        self.do(0, "author", 2)

    def test_level_below_3(self):
        for level in (0, 1, 2):
            with self.subTest(level=level):
                self.setUp()
                self.levels(level)
                self.refused(-9, "accept", 1)
                self.do(0, "track", 0)
                self.refused(-9, "accept", 1)

    def test_level_3(self):
        self.levels(3)
        self.do(2, "accept", 1)

    def test_own_change_needs_3_too(self):
        self.levels(2)
        self.do(2, "cut", 1, 2)
        self.refused(-9, "accept", 2)
        self.do(0, "author", 1)
        self.do(1, "accept", 2)

    def test_pieces_not_shown_count(self):
        self.do(0, "put", 0, "ab")
        self.do(1, "guard", 0, 1, 2)
        self.do(0, "author", 2)
        self.do(0, "track", 1)
        self.do(1, "cut", 0, 1)
        self.refused(-9, "accept", 1)

    def test_pieces_that_do_not_bear_it_do_not_count(self):
        self.do(0, "put", 0, "ab")
        self.do(1, "guard", 0, 1, 0)
        self.do(0, "author", 2)
        self.do(0, "track", 1)
        self.do(1, "cut", 1, 2)
        self.do(1, "accept", 1)

    def test_notes_do_not_count(self):
        self.do(0, "put", 0, "ab")
        self.do(1, "note", 0, 3)
        self.do(0, "track", 1)
        self.do(1, "cut", 0, 1)
        self.do(0, "author", 2)
        self.do(1, "accept", 1)

    def test_refusal_ahead_of_right(self):
        self.levels(0)
        self.refused(-4, "accept", 2)

    def test_change_stays_entered(self):
        self.do(0, "track", 1)
        self.do(1, "put", 0, "a")
        self.do(1, "accept", 1)
        self.tells([1, 0, 1, 0], "change", 1)
        self.do(2, "put", 0, "b")

    def test_with_tracking_off_or_on(self):
        self.do(0, "track", 1)
        self.do(1, "put", 0, "a")
        self.do(2, "put", 0, "b")
        self.do(1, "accept", 1)
        self.do(0, "track", 0)
        self.do(1, "accept", 2)


if __name__ == "__main__":
    unittest.main()
