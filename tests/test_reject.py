"""Promise 16: reject."""

import unittest

from helper import FAR, DeskCase


class Insertions(DeskCase):
    def test_put(self):
        self.do(0, "put", 0, "ab")
        self.do(0, "track", 1)
        self.do(1, "put", 1, "xy")
        self.do(2, "put", 0, "z")
        self.do(2, "reject", 1)
        self.assertEqual(self.desk.row_text(), "zab")
        self.assertEqual(self.desk.column(2), [[2], [], [], []])

    def test_piece_that_is_not_shown(self):
        self.do(0, "track", 1)
        self.do(1, "put", 0, "abc")
        self.do(0, "author", 2)
        self.do(2, "cut", 0, 2)
        self.do(3, "reject", 1)
        self.assertEqual(self.desk.row_text(), "")
        self.tells([2, 0, 2, 0], "change", 2)

    def test_own_pieces_put_between(self):
        self.do(0, "track", 1)
        self.do(1, "put", 0, "ac")
        self.do(2, "put", 1, "b")
        self.do(2, "reject", 1)
        self.assertEqual(self.desk.row_text(), "b")


class Deletions(DeskCase):
    def test_cut(self):
        self.do(0, "put", 0, "abcde")
        self.do(0, "track", 1)
        self.do(1, "cut", 1, 3)
        self.do(2, "cut", 2, 3)
        self.do(2, "reject", 1)
        self.assertEqual(self.desk.row_text(), "abcd[e]")
        self.do(1, "reject", 2)
        self.assertEqual(self.desk.row_text(), "abcde")
        self.assertEqual(self.desk.column(3), [[]] * 6)

    def test_places_afterwards(self):
        self.do(0, "put", 0, "abcd")
        self.do(0, "track", 1)
        self.do(1, "cut", 0, 1)
        self.do(2, "cut", 1, 2)
        self.assertEqual(self.desk.row_text(), "[a]b[c]d")
        self.do(1, "reject", 1)
        self.do(3, "put", 2, "x")
        self.assertEqual(self.desk.row_text(), "ab[c]xd")
        self.do(4, "put", 0, "y")
        self.assertEqual(self.desk.row_text(), "yab[c]xd")

    def test_shown_again_in_the_seam(self):
        self.do(0, "put", 0, "abc")
        self.do(1, "guard", 0, 2, 0)
        self.do(0, "track", 1)
        self.do(1, "cut", 1, 2)
        self.tells([3, 3, 0], "right", 2, 1)
        self.do(1, "reject", 1)
        self.tells([0, 0, 1], "right", 2, 1)


class Moves(DeskCase):
    def test_copies_go_and_originals_are_shown(self):
        self.do(0, "put", 0, "abcd")
        self.do(0, "track", 1)
        self.do(1, "move", 0, 2, 3)
        self.do(4, "reject", 1)
        self.assertEqual(self.desk.row_text(), "abcd")
        self.assertEqual(self.desk.column(2), [[]] * 5)
        self.assertEqual(self.desk.column(3), [[]] * 5)

    def moved_three_times(self):
        """b goes behind c, then behind d, then to the front."""
        self.do(0, "put", 0, "abcd")
        self.do(0, "track", 1)
        self.do(1, "move", 1, 2, 3)
        self.do(0, "author", 2)
        self.do(2, "move", 2, 3, 4)
        self.do(0, "author", 1)
        self.do(3, "move", 3, 4, 0)
        self.assertEqual(self.desk.row_text(), "ba[b]c[b]d[b]")

    def test_first_of_several_moves(self):
        self.moved_three_times()
        self.do(4, "reject", 1)
        self.assertEqual(self.desk.row_text(), "abcd")
        self.tells([2, 0, 4, 0], "change", 2)
        self.tells([1, 0, 4, 0], "change", 3)

    def test_middle_of_several_moves(self):
        self.moved_three_times()
        self.do(3, "reject", 2)
        self.assertEqual(self.desk.row_text(), "a[b]cbd")
        self.assertEqual(self.desk.column(2), [[], [], [], [1], [], []])
        self.tells(0, "reject", 3)

    def test_last_of_several_moves(self):
        self.moved_three_times()
        self.do(2, "reject", 3)
        self.assertEqual(self.desk.row_text(), "a[b]c[b]db")
        self.assertEqual(self.desk.column(2), [[], [], [], [1], [], [1, 2], []])

    def test_a_put_that_was_moved(self):
        self.do(0, "put", 0, "ab")
        self.do(0, "track", 1)
        self.do(1, "put", 0, "x")
        self.do(0, "author", 2)
        self.do(2, "move", 0, 1, 2)
        self.assertEqual(self.desk.row_text(), "[x]axb")
        self.do(2, "reject", 1)
        self.assertEqual(self.desk.row_text(), "ab")

    def test_a_copy_that_was_cut(self):
        self.do(0, "put", 0, "ab")
        self.do(0, "track", 1)
        self.do(1, "move", 0, 1, 2)
        self.do(0, "author", 2)
        self.do(2, "cut", 1, 2)
        self.assertEqual(self.desk.row_text(), "[a]b[a]")
        self.do(1, "reject", 2)
        self.assertEqual(self.desk.row_text(), "[a]ba")
        self.do(2, "reject", 1)
        self.assertEqual(self.desk.row_text(), "ab")


class PendingLooks(DeskCase):
    def setUp(self):
        DeskCase.setUp(self)
        self.do(0, "put", 0, "ab")
        self.do(0, "track", 1)

    def test_paint(self):
        self.do(1, "paint", 0, 3, 2, 7)
        self.do(3, "reject", 1)
        self.assertEqual(self.desk.column(1), [[0, 0, 0, 0]] * 3)
        self.assertEqual(self.desk.column(4), [[], [], []])
        self.assertEqual(self.desk.looks(), [[0, 0, 0, 0]] * 3)

    def several(self):
        """Three pending looks for the property 1, with others for the properties 0 and 3 between them."""
        for c, k, v in ((1, 1, 5), (2, 0, 6), (3, 1, 7), (4, 3, 8), (5, 1, 9)):
            self.do(c, "paint", 0, 1, k, v)

    def test_last_for_one_property(self):
        self.several()
        self.do(1, "reject", 5)
        self.assertEqual(self.desk.column(1)[0], [0, 0, 0, 0])
        self.assertEqual(self.desk.column(4)[0], [[1, 1, 5], [2, 0, 6], [3, 1, 7], [4, 3, 8]])
        self.assertEqual(self.desk.looks()[0], [6, 7, 0, 8])

    def test_middle_for_one_property(self):
        self.several()
        self.do(1, "reject", 3)
        self.assertEqual(self.desk.column(4)[0], [[1, 1, 5], [2, 0, 6], [4, 3, 8], [5, 1, 9]])
        self.assertEqual(self.desk.looks()[0], [6, 9, 0, 8])
        self.do(1, "reject", 5)
        self.assertEqual(self.desk.looks()[0], [6, 5, 0, 8])

    def test_one_between(self):
        self.several()
        self.do(1, "reject", 2)
        self.assertEqual(self.desk.column(4)[0], [[1, 1, 5], [3, 1, 7], [4, 3, 8], [5, 1, 9]])
        self.assertEqual(self.desk.looks()[0], [0, 9, 0, 8])

    def test_neighbours_with_the_same_look_as_shown(self):
        """An entry may stand behind one with the same value, when the one between them was rejected."""
        self.do(1, "paint", 0, 1, 0, 5)
        self.do(2, "paint", 0, 1, 0, 6)
        self.do(3, "paint", 0, 1, 0, 5)
        self.do(1, "reject", 2)
        self.assertEqual(self.desk.column(4)[0], [[1, 0, 5], [3, 0, 5]])
        self.do(0, "paint", 0, 1, 0, 5)

    def test_the_look_of_what_is_put_next_to_it(self):
        self.several()
        self.do(1, "reject", 5)
        self.do(6, "put", 1, "x")
        self.assertEqual(self.desk.column(1)[1], [6, 7, 0, 8])
        self.do(7, "paint", 3, 4, 2, 3)
        self.do(8, "put", 3, "\n")
        self.do(1, "reject", 7)
        self.do(9, "put", 0, "z")
        self.assertEqual(self.desk.column(1), [[0, 0, 0, 0], [0, 0, 0, 0], [6, 7, 0, 8], [0, 0, 0, 0],
                                               [0, 0, 3, 0], [0, 0, 0, 0]])
        self.do(1, "reject", 8)
        self.do(10, "put", 4, "\n")
        self.assertEqual(self.desk.column(1)[4], [0, 0, 0, 0])

    def test_different_pieces_bear_it_differently(self):
        self.do(1, "paint", 0, 2, 3, 1)
        self.do(2, "move", 0, 1, 2)
        self.do(3, "reject", 1)
        self.assertEqual(self.desk.column(4), [[]] * 4)
        self.assertEqual(self.desk.row_text(), "[a]ba")
        self.do(2, "reject", 2)
        self.assertEqual(self.desk.row_text(), "ab")


class RightsAndRefusals(DeskCase):
    def test_no_change_entered(self):
        for c in (1, 0, -1, FAR, -FAR):
            self.refused(-4, "reject", c)

    def test_first_and_last_change(self):
        self.do(0, "track", 1)
        for c in range(1, 5):
            self.do(c, "put", 0, "a")
        for c in (0, 5, -1, FAR, -FAR):
            self.refused(-4, "reject", c)
        self.do(1, "reject", 1)
        self.do(1, "reject", 4)
        self.assertEqual(self.desk.column(2), [[3], [2], []])

    def test_when_no_piece_bears_it_any_more(self):
        self.do(0, "track", 1)
        self.do(1, "put", 0, "ab")
        self.do(0, "cut", 0, 2)
        self.tells(0, "reject", 1)
        self.tells(0, "accept", 1)
        self.do(0, "author", 2)
        self.tells(0, "reject", 1)

    def levels(self, level, painter):
        """Author 2 has this level in part 1, over b; change 1 is a paint of a and b by one of the authors 1 and 2."""
        self.do(0, "put", 0, "abc")
        self.do(1, "guard", 1, 2, 0)
        self.do(0, "track", 1)
        self.do(0, "grant", 1, 2, 3, 0)
        self.do(0, "author", painter)
        self.do(1, "paint", 0, 2, 0, 5)
        self.do(0, "author", 1)
        self.do(0, "grant", 1, 2, level, 0)
        self.do(0, "author", 2)

    def test_others_change(self):
        for level in (0, 1, 2):
            with self.subTest(level=level):
                self.setUp()
                self.levels(level, 1)
                self.refused(-9, "reject", 1)
        self.setUp()
        self.levels(3, 1)
        self.do(2, "reject", 1)

    def test_own_change(self):
        for level in (0, 1):
            with self.subTest(level=level):
                self.setUp()
                self.levels(level, 2)
                self.refused(-9, "reject", 1)
        for level in (2, 3):
            with self.subTest(level=level):
                self.setUp()
                self.levels(level, 2)
                self.do(2, "reject", 1)

    def test_may_only_reject(self):
        self.levels(2, 2)
        self.do(0, "track", 0)
        self.refused(-9, "accept", 1)
        self.do(2, "reject", 1)

    def test_own_among_changes_of_others(self):
        """The author is asked of change c itself, not of one beside it."""
        self.do(0, "put", 0, "abcd")
        self.do(1, "guard", 0, 4, 2)
        self.do(0, "track", 1)
        for c, a in ((1, 3), (2, 2), (3, 2), (4, 3)):
            self.do(0, "author", a)
            self.do(c, "paint", c - 1, c, 0, 5)
        self.do(0, "author", 2)
        self.refused(-9, "reject", 1)
        self.refused(-9, "reject", 4)
        self.do(1, "reject", 2)
        self.do(1, "reject", 3)
        self.do(0, "author", 3)
        self.do(1, "reject", 1)
        self.do(1, "reject", 4)

    def test_pieces_not_shown_count(self):
        self.do(0, "put", 0, "ab")
        self.do(1, "guard", 0, 1, 2)
        self.do(0, "author", 2)
        self.do(0, "track", 1)
        self.do(1, "cut", 0, 1)
        self.do(0, "author", 3)
        self.refused(-9, "reject", 1)
        self.do(0, "author", 2)
        self.do(1, "reject", 1)

    def test_the_least_level_upon_each_piece(self):
        self.do(0, "put", 0, "ab")
        self.do(1, "guard", 0, 1, 2)
        self.do(2, "guard", 1, 2, 2)
        self.do(0, "author", 2)
        self.do(0, "track", 1)
        self.do(1, "cut", 0, 2)
        self.do(0, "author", 1)
        self.do(2, "others", 2, 1)
        self.do(0, "author", 2)
        self.refused(-9, "reject", 1)
        self.do(0, "author", 1)
        self.do(1, "others", 2, 3)
        self.do(0, "author", 2)
        self.do(2, "reject", 1)

    def test_refusal_ahead_of_right(self):
        self.levels(0, 1)
        self.refused(-4, "reject", 2)

    def test_change_stays_entered(self):
        self.do(0, "track", 1)
        self.do(1, "put", 0, "a")
        self.do(1, "reject", 1)
        self.tells([1, 0, 1, 0], "change", 1)
        self.do(2, "put", 0, "b")


if __name__ == "__main__":
    unittest.main()
