"""Promises 9 to 11: guard, dissolve, others."""

import unittest

from helper import FAR, DeskCase


class Guard(DeskCase):
    def setUp(self):
        DeskCase.setUp(self)
        self.do(0, "put", 0, "abcd")

    def test_numbers_and_tags(self):
        self.do(1, "guard", 1, 3, 0)
        self.do(0, "author", 99)
        self.do(2, "guard", 3, 5, 3)
        self.do(3, "guard", 0, 1, 1)
        self.assertEqual(self.desk.column(5), [[3], [1], [1], [2], [2]])
        parts = self.desk.state.parts
        self.assertEqual([(parts[t].owner, parts[t].others) for t in (1, 2, 3)], [(1, 0), (99, 3), (99, 1)])
        self.assertEqual([self.desk.grants(t) for t in (1, 2, 3)], [[], [], []])

    def test_over_one_another(self):
        self.do(1, "guard", 0, 5, 0)
        self.do(2, "guard", 0, 5, 0)
        self.do(3, "guard", 1, 2, 0)
        self.assertEqual(self.desk.column(5), [[1, 2], [1, 2, 3], [1, 2], [1, 2], [1, 2]])

    def test_no_place(self):
        for p, q in ((-1, 2), (0, 0), (2, 1), (5, 5), (5, 6), (0, 6), (-FAR, 2), (0, FAR), (FAR, -FAR)):
            self.refused(-1, "guard", p, q, 0)
        self.do(1, "guard", 4, 5, 0)

    def test_levels_for_others(self):
        for level in (-1, 4, FAR, -FAR):
            self.refused(-2, "guard", 0, 2, level)
        for t, level in ((1, 0), (2, 3)):
            self.do(t, "guard", 0, 2, level)
            self.assertEqual(self.desk.state.parts[t].others, level)

    def test_order_of_refusals(self):
        self.do(1, "guard", 0, 5, 0)
        self.do(0, "author", 2)
        self.refused(-1, "guard", 0, 6, 4)
        self.refused(-2, "guard", 0, 5, 4)
        self.refused(-9, "guard", 0, 5, 0)

    def test_level_3_is_asked_for_tracking_on_or_off(self):
        self.do(1, "guard", 1, 2, 2)
        for on in (0, 1):
            self.do(0, "track", on)
            self.do(0, "author", 2)
            self.refused(-9, "guard", 0, 3, 0)
            self.refused(-9, "guard", 1, 2, 0)
        self.do(2, "guard", 0, 1, 0)
        self.do(0, "author", 1)
        self.do(0, "grant", 1, 2, 3, 0)
        self.do(0, "author", 2)
        self.do(3, "guard", 0, 3, 0)

    def test_pieces_not_shown_between(self):
        self.do(0, "track", 1)
        self.do(1, "cut", 1, 2)
        self.do(2, "cut", 0, 1)
        self.do(3, "cut", 1, 2)
        self.assertEqual(self.desk.row_text(), "[a][b]c[d]")
        self.do(1, "guard", 0, 1, 0)
        self.do(2, "guard", 0, 2, 0)
        self.do(3, "guard", 1, 2, 0)
        self.assertEqual(self.desk.column(5), [[], [], [1, 2], [2], [2, 3]])

    def test_rights_upon_pieces_not_shown_do_not_matter(self):
        self.do(1, "guard", 1, 2, 0)
        self.do(0, "track", 1)
        self.do(1, "cut", 1, 2)
        self.do(0, "author", 2)
        self.do(2, "guard", 0, 2, 0)
        self.assertEqual(self.desk.column(5), [[2], [1, 2], [2], [], []])

    def test_500_parts_and_no_more(self):
        for t in range(1, 501):
            self.do(t, "guard", t % 4, 5, 3)
        self.refused(-7, "guard", 0, 5, 0)
        self.refused(-1, "guard", 0, 6, 0)
        self.refused(-2, "guard", 0, 5, 4)
        self.assertEqual(self.desk.column(5)[4], list(range(1, 501)))
        self.assertEqual(self.desk.column(5)[0], list(range(4, 501, 4)))
        self.do(5, "dissolve", 500)
        self.refused(-7, "guard", 0, 5, 0)

    def test_right_is_looked_at_before_the_500(self):
        for t in range(1, 501):
            self.do(t, "guard", 0, 1, 0)
        self.do(0, "author", 2)
        self.refused(-9, "guard", 0, 1, 0)
        self.refused(-7, "guard", 1, 2, 0)
        self.refused(-9, "cut", 0, 1)

    def test_500th_part_guards(self):
        for t in range(1, 501):
            self.do(t, "guard", 1, 3, 3 if t < 500 else 0)
        self.do(0, "author", 2)
        self.refused(-9, "cut", 1, 2)
        self.refused(-9, "put", 2, "x")
        self.do(0, "author", 1)
        self.do(0, "others", 500, 3)
        self.do(0, "author", 2)
        self.do(0, "put", 2, "x")
        self.assertEqual(self.desk.column(5)[2], list(range(1, 501)))


class Dissolve(DeskCase):
    def setUp(self):
        DeskCase.setUp(self)
        self.do(0, "put", 0, "abcd")
        self.do(1, "guard", 0, 3, 0)
        self.do(2, "guard", 1, 5, 0)

    def test_tags_go(self):
        self.do(3, "dissolve", 1)
        self.assertEqual(self.desk.column(5), [[], [2], [2], [2], [2]])
        self.do(0, "author", 2)
        self.do(0, "cut", 0, 1)
        self.refused(-9, "cut", 0, 1)

    def test_no_part_in_force(self):
        for t in (0, 3, -1, 500, 501, FAR, -FAR):
            self.refused(-4, "dissolve", t)
        self.do(3, "dissolve", 1)
        self.refused(-4, "dissolve", 1)

    def test_part_is_looked_at_before_the_right(self):
        self.do(3, "dissolve", 1)
        self.do(0, "author", 2)
        self.refused(-4, "dissolve", 1)
        self.refused(-9, "dissolve", 2)

    def test_only_the_owner(self):
        self.do(0, "grant", 1, 2, 3, 1)
        self.do(0, "others", 1, 3)
        self.do(0, "author", 2)
        self.refused(-9, "dissolve", 1)

    def test_numbers_are_not_used_again(self):
        self.do(4, "dissolve", 2)
        self.do(3, "guard", 0, 1, 0)

    def test_pieces_not_shown_count_and_lose_it(self):
        self.do(0, "track", 1)
        self.do(1, "cut", 0, 2)
        self.do(2, "move", 0, 1, 2)
        self.assertEqual(self.desk.row_text(), "[a][b][c]dc")
        self.do(4, "dissolve", 1)
        self.assertEqual(self.desk.column(5), [[], [2], [2], [2], [2], [2]])

    def test_no_pieces_left(self):
        self.do(0, "cut", 0, 3)
        self.do(0, "dissolve", 1)

    def test_part_keeps_what_it_had(self):
        self.do(0, "grant", 1, 2, 3, 1)
        self.do(3, "dissolve", 1)
        part = self.desk.state.parts[1]
        self.assertEqual((part.in_force, part.owner, part.others), (False, 1, 0))
        self.assertEqual(self.desk.grants(1), [(2, 3, True, 1)])


class Others(DeskCase):
    def setUp(self):
        DeskCase.setUp(self)
        self.do(0, "put", 0, "abcd")
        self.do(1, "guard", 0, 3, 2)

    def test_answers_what_it_was(self):
        self.do(2, "others", 1, 0)
        self.do(0, "others", 1, 3)
        self.do(3, "others", 1, 3)
        self.do(3, "others", 1, 1)
        self.assertEqual(self.desk.state.parts[1].others, 1)

    def test_counts_at_once(self):
        for level, off, on in ((0, -9, -9), (3, 0, 1), (1, -9, -9), (2, -9, 2)):
            self.do(0, "author", 1)
            self.desk.do("others", 1, level)
            self.do(0, "author", 2)
            self.do(0, "track", 0)
            self.do(off, "paint", 0, 1, 0, level)
            self.do(0, "track", 1)
            self.do(on, "paint", 0, 1, 1, level)

    def test_no_part_in_force(self):
        for t in (0, 2, -1, FAR, -FAR):
            self.refused(-4, "others", t, 1)
        self.do(3, "dissolve", 1)
        self.refused(-4, "others", 1, 1)

    def test_out_of_range(self):
        for level in (-1, 4, FAR, -FAR):
            self.refused(-2, "others", 1, level)

    def test_order_of_refusals(self):
        self.do(0, "author", 2)
        self.refused(-4, "others", 2, 4)
        self.refused(-2, "others", 1, 4)
        self.refused(-9, "others", 1, 3)

    def test_only_the_owner(self):
        self.do(0, "grant", 1, 2, 3, 1)
        self.do(0, "author", 2)
        self.refused(-9, "others", 1, 3)

    def test_grants_stay(self):
        self.do(0, "grant", 1, 2, 1, 1)
        self.do(0, "author", 2)
        self.do(0, "grant", 1, 3, 1, 0)
        self.do(0, "author", 1)
        self.do(2, "others", 1, 3)
        self.do(3, "others", 1, 0)
        self.assertEqual(self.desk.grants(1), [(2, 1, True, 1), (3, 1, False, 2)])


if __name__ == "__main__":
    unittest.main()
