"""Promises 17, 18 and 25: note, unnote and notes."""

import unittest

from helper import FAR, DeskCase


class Note(DeskCase):
    def test_number_and_tag(self):
        self.do(0, "put", 0, "abcd")
        self.do(1, "note", 1, 3)
        self.do(2, "note", 0, 5)
        self.assertEqual(self.desk.column(5), [[502], [501, 502], [501, 502], [502], [502]])

    def test_maker(self):
        self.do(0, "author", 99)
        self.do(1, "note", 0, 1)
        self.do(0, "author", 4)
        self.do(2, "note", 0, 1)
        self.tells([2, 1, 99, 1, 2, 4, 1], "notes")

    def test_no_change_is_entered(self):
        self.do(0, "put", 0, "ab")
        self.do(0, "track", 1)
        self.do(1, "note", 0, 1)
        self.tells(-4, "change", 1)

    def test_pieces_between_that_are_not_shown(self):
        self.do(0, "put", 0, "abcdef")
        self.do(0, "track", 1)
        self.do(1, "cut", 0, 1)
        self.do(2, "cut", 1, 2)
        self.do(3, "cut", 2, 3)
        self.assertEqual(self.desk.row_text(), "[a]b[c]d[e]f")
        self.do(1, "note", 0, 2)
        self.assertEqual(self.desk.column(5), [[], [501], [501], [501], [], [], []])
        self.do(2, "note", 1, 2)
        self.assertEqual(self.desk.column(5), [[], [501], [501], [501, 502], [], [], []])

    def test_a_part_and_a_note_on_the_same_pieces(self):
        self.do(0, "put", 0, "abc")
        self.do(1, "note", 0, 2)
        self.do(1, "guard", 1, 3, 1)
        self.assertEqual(self.desk.column(5), [[501], [1, 501], [1], []])
        self.tells([1, 3, 1], "right", 2, 1)
        self.do(2, "dissolve", 1)
        self.assertEqual(self.desk.column(5), [[501], [501], [], []])
        self.do(2, "guard", 0, 3, 1)
        self.do(2, "unnote", 1)
        self.assertEqual(self.desk.column(5), [[2], [2], [2], []])

    def test_places(self):
        self.do(0, "put", 0, "ab")
        for p, q in ((-1, 1), (0, 0), (1, 1), (2, 1), (0, 4), (3, 4), (3, 3), (-FAR, FAR), (0, FAR), (FAR, FAR)):
            self.refused(-1, "note", p, q)
        self.do(1, "note", 0, 3)
        self.do(2, "note", 2, 3)
        self.assertEqual(self.desk.column(5), [[501], [501], [501, 502]])

    def test_level_1_is_enough(self):
        self.do(0, "put", 0, "abc")
        for t, level in ((1, 1), (2, 2), (3, 3)):
            self.do(t, "guard", t - 1, t, level)
        self.do(0, "author", 2)
        for tracking in (0, 1):
            self.do(0, "track", tracking)
            self.do(tracking + 1, "note", 0, 3)

    def test_level_0_is_not(self):
        self.do(0, "put", 0, "abc")
        self.do(1, "guard", 0, 3, 3)
        self.do(2, "guard", 1, 2, 0)
        self.do(0, "author", 2)
        self.refused(-9, "note", 0, 2)
        self.refused(-9, "note", 1, 2)
        self.refused(-9, "note", 1, 3)
        self.do(1, "note", 0, 1)
        self.do(2, "note", 2, 4)
        self.do(0, "author", 1)
        self.do(3, "note", 0, 4)
        self.do(0, "grant", 2, 2, 1, 0)
        self.do(0, "author", 2)
        self.do(4, "note", 0, 4)

    def test_right_upon_pieces_between_that_are_not_shown_is_not_asked(self):
        self.do(0, "put", 0, "abc")
        self.do(1, "guard", 1, 2, 0)
        self.do(0, "track", 1)
        self.do(1, "cut", 1, 2)
        self.do(0, "author", 2)
        self.do(1, "note", 0, 2)
        self.assertEqual(self.desk.column(5), [[501], [1, 501], [501], []])

    def test_place_ahead_of_right(self):
        self.do(1, "guard", 0, 1, 0)
        self.do(0, "author", 2)
        self.refused(-1, "note", 0, 2)

    def test_499_notes(self):
        self.do(0, "put", 0, "a")
        for k in range(1, 500):
            self.do(k, "note", 0, 1)
        self.refused(-7, "note", 0, 1)
        self.assertEqual(self.desk.column(5), [list(range(501, 1000)), []])
        self.do(1, "unnote", 499)
        self.do(1, "unnote", 1)
        self.refused(-7, "note", 0, 1)
        self.refused(-1, "note", 0, 3)
        self.do(1, "guard", 0, 1, 0)
        self.do(0, "author", 2)
        self.refused(-9, "note", 0, 1)
        self.refused(-7, "note", 1, 2)
        told = self.desk.do("notes")
        self.assertEqual(told[:4] + told[-3:], [497, 2, 1, 1, 498, 1, 1])

    def test_notes_and_parts_are_counted_apart(self):
        self.do(1, "guard", 0, 1, 3)
        self.do(1, "note", 0, 1)
        self.do(2, "guard", 0, 1, 3)
        self.do(2, "note", 0, 1)
        self.assertEqual(self.desk.column(5), [[1, 2, 501, 502]])
        self.tells([3, 3, 2], "right", 1, 0)


class Carried(DeskCase):
    """Notes on pieces that are put, copied, moved and cut."""

    def setUp(self):
        DeskCase.setUp(self)
        self.do(0, "put", 0, "abcd")
        self.do(1, "note", 1, 3)

    def test_put(self):
        self.do(0, "put", 2, "x")
        self.do(0, "put", 1, "y")
        self.do(0, "put", 5, "z")
        self.assertEqual(self.desk.row_text(), "aybxczd")
        self.assertEqual(self.desk.column(5), [[], [], [501], [501], [501], [], [], []])
        self.tells([1, 1, 1, 3], "notes")

    def test_put_at_the_beginning(self):
        self.do(2, "note", 0, 1)
        self.do(0, "put", 0, "x")
        self.assertEqual(self.desk.column(5)[0], [])

    def test_put_between_not_shown_pieces_of_the_note(self):
        self.do(0, "track", 1)
        self.do(1, "cut", 1, 2)
        self.do(2, "put", 1, "x")
        self.assertEqual(self.desk.row_text(), "a[b]xcd")
        self.assertEqual(self.desk.column(5), [[], [501], [], [501], [], []])

    def test_copied(self):
        self.do(0, "track", 1)
        self.do(1, "move", 1, 2, 0)
        self.assertEqual(self.desk.row_text(), "ba[b]cd")
        self.assertEqual(self.desk.column(5), [[501], [], [501], [501], [], []])
        self.tells([1, 1, 1, 3], "notes")

    def test_moved(self):
        self.do(0, "move", 1, 2, 0)
        self.do(0, "move", 1, 2, 3)
        self.assertEqual(self.desk.row_text(), "bcad")
        self.assertEqual(self.desk.column(5), [[501], [501], [], [], []])

    def test_moved_into(self):
        self.do(0, "move", 0, 1, 2)
        self.assertEqual(self.desk.row_text(), "bacd")
        self.assertEqual(self.desk.column(5), [[501], [], [501], [], []])

    def test_cut(self):
        self.do(0, "track", 1)
        self.do(1, "cut", 1, 2)
        self.tells([1, 1, 1, 2], "notes")
        self.do(1, "accept", 1)
        self.tells([1, 1, 1, 1], "notes")
        self.do(0, "track", 0)
        self.do(0, "cut", 1, 2)
        self.tells([1, 1, 1, 0], "notes")
        self.do(0, "unnote", 1)
        self.tells([0], "notes")

    def test_painted(self):
        self.do(0, "paint", 0, 5, 0, 1)
        self.do(0, "track", 1)
        self.do(1, "paint", 0, 5, 0, 2)
        self.assertEqual(self.desk.column(5), [[], [501], [501], [], []])
        self.do(5, "accept", 1)
        self.assertEqual(self.desk.column(5), [[], [501], [501], [], []])


class Unnote(DeskCase):
    def test_gone(self):
        self.do(0, "put", 0, "abcd")
        self.do(1, "note", 1, 3)
        self.do(2, "note", 0, 2)
        self.do(2, "unnote", 1)
        self.assertEqual(self.desk.column(5), [[502], [502], [], [], []])
        self.tells([1, 2, 1, 2], "notes")
        self.refused(-4, "unnote", 1)
        self.do(3, "note", 0, 1)

    def test_pieces_not_shown_and_copies(self):
        self.do(0, "put", 0, "abc")
        self.do(1, "note", 0, 2)
        self.do(0, "track", 1)
        self.do(1, "move", 0, 1, 3)
        self.do(3, "unnote", 1)
        self.assertEqual(self.desk.column(5), [[]] * 5)

    def test_not_made(self):
        for k in (1, 0, -1, 501, FAR, -FAR):
            self.refused(-4, "unnote", k)
        self.do(1, "note", 0, 1)
        for k in (0, 2, 501, -1, FAR, -FAR):
            self.refused(-4, "unnote", k)

    def test_its_maker_alone(self):
        self.do(0, "put", 0, "a")
        self.do(1, "guard", 0, 2, 1)
        self.do(0, "author", 2)
        self.do(1, "note", 0, 1)
        self.do(0, "author", 1)
        self.refused(-9, "unnote", 1)
        self.do(2, "note", 0, 1)
        self.do(0, "author", 2)
        self.refused(-9, "unnote", 2)
        self.do(1, "unnote", 1)

    def test_no_level_is_needed(self):
        self.do(1, "guard", 0, 1, 1)
        self.do(0, "author", 2)
        self.do(1, "note", 0, 1)
        self.do(0, "author", 1)
        self.do(1, "others", 1, 0)
        self.do(0, "author", 2)
        self.do(1, "unnote", 1)

    def test_gone_ahead_of_right(self):
        self.do(1, "note", 0, 1)
        self.do(1, "unnote", 1)
        self.do(0, "author", 2)
        self.refused(-4, "unnote", 1)

    def test_first_and_last(self):
        for k in range(1, 500):
            self.do(k, "note", 0, 1)
        self.do(1, "unnote", 499)
        self.do(1, "unnote", 1)
        self.assertEqual(self.desk.column(5), [list(range(502, 999))])
        self.refused(-4, "unnote", 500)


class Notes(DeskCase):
    def test_none(self):
        self.tells([0], "notes")
        self.do(0, "put", 0, "abc")
        self.do(1, "guard", 0, 2, 0)
        self.tells([0], "notes")

    def test_several(self):
        self.do(0, "put", 0, "abcd")
        self.do(1, "note", 0, 3)
        self.do(0, "author", 7)
        self.do(2, "note", 2, 5)
        self.do(0, "author", 3)
        self.do(3, "note", 4, 5)
        self.tells([3, 1, 1, 3, 2, 7, 3, 3, 3, 1], "notes")
        self.do(0, "author", 7)
        self.do(3, "unnote", 2)
        self.tells([2, 1, 1, 3, 3, 3, 1], "notes")

    def test_author_of_the_moment_does_not_matter(self):
        self.do(1, "guard", 0, 1, 0)
        self.do(1, "note", 0, 1)
        self.do(0, "author", 2)
        self.tells([1, 1, 1, 1], "notes")


if __name__ == "__main__":
    unittest.main()
