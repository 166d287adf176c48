"""Promise 14: transfer, and what becomes of grants then."""

import unittest

from helper import FAR, DeskCase


class Transfer(DeskCase):
    def setUp(self):
        DeskCase.setUp(self)
        self.do(0, "put", 0, "abc")
        self.do(1, "guard", 0, 2, 0)

    def by(self, a):
        self.do(0, "author", a)

    def test_to_an_author_without_a_grant(self):
        self.do(0, "transfer", 1, 99)
        self.tells([1, 99, 0, 2, 2, 0], "part", 1)
        self.tells(3, "level", 1, 99)
        self.tells(0, "level", 1, 1)

    def test_to_an_author_with_a_grant_of_their_own(self):
        self.do(0, "grant", 1, 2, 1, 0)
        self.do(0, "grant", 1, 3, 2, 0)
        self.do(1, "transfer", 1, 2)
        self.tells([1, 2, 0, 2, 2, 1, 3, 2, 0, 2], "part", 1)
        self.tells(3, "level", 1, 2)

    def test_grants_that_the_owner_gave_are_given_by_the_new_one(self):
        self.do(0, "grant", 1, 4, 3, 1)
        self.do(0, "grant", 1, 3, 0, 0)
        self.do(2, "transfer", 1, 2)
        self.tells([1, 2, 0, 2, 2, 2, 3, 0, 0, 2, 4, 3, 1, 2], "part", 1)

    def test_grants_that_the_new_owner_gave_stay(self):
        self.do(0, "grant", 1, 2, 2, 1)
        self.by(2)
        self.do(0, "grant", 1, 3, 2, 1)
        self.do(0, "grant", 1, 4, 0, 0)
        self.by(1)
        self.do(2, "transfer", 1, 2)
        self.tells([1, 2, 0, 2, 2, 2, 3, 2, 1, 2, 4, 0, 0, 2], "part", 1)

    def test_grants_that_others_gave_further_on_stay(self):
        self.do(0, "grant", 1, 2, 3, 1)
        self.by(2)
        self.do(0, "grant", 1, 3, 2, 1)
        self.by(3)
        self.do(0, "grant", 1, 4, 1, 1)
        self.by(4)
        self.do(0, "grant", 1, 5, 1, 0)
        self.by(1)
        self.do(3, "transfer", 1, 3)
        self.tells([1, 3, 0, 2, 2, 3, 2, 3, 1, 3, 4, 1, 1, 3, 5, 1, 0, 4], "part", 1)
        self.by(3)
        self.do(1, "revoke", 1, 2)
        self.do(2, "revoke", 1, 4)
        self.tells([1, 3, 0, 2, 2, 0], "part", 1)

    def test_the_former_owner_has_no_right_left(self):
        self.do(0, "transfer", 1, 2)
        for call in (("cut", 0, 1), ("put", 1, "x"), ("paint", 0, 1, 0, 1), ("guard", 0, 1, 0), ("note", 0, 1),
                     ("dissolve", 1), ("others", 1, 3), ("grant", 1, 3, 0, 0), ("transfer", 1, 1),
                     ("transfer", 1, 2)):
            self.refused(-9, *call)

    def test_the_former_owner_may_no_longer_revoke_what_they_gave(self):
        self.do(0, "grant", 1, 3, 2, 1)
        self.do(1, "transfer", 1, 2)
        self.refused(-9, "revoke", 1, 3)
        self.by(2)
        self.do(1, "revoke", 1, 3)

    def test_the_former_owner_may_have_a_grant(self):
        self.do(0, "transfer", 1, 2)
        self.by(2)
        self.do(0, "grant", 1, 1, 2, 1)
        self.tells([1, 2, 0, 2, 2, 1, 1, 2, 1, 2], "part", 1)
        self.by(1)
        self.do(0, "grant", 1, 3, 2, 0)
        self.refused(-9, "grant", 1, 4, 3, 0)
        self.refused(-3, "grant", 1, 2, 0, 0)
        self.do(0, "track", 1)
        self.do(1, "cut", 0, 1)

    def test_the_new_owner_may_do_all(self):
        self.do(0, "transfer", 1, 2)
        self.by(2)
        self.do(0, "cut", 0, 1)
        self.do(0, "others", 1, 2)
        self.do(0, "transfer", 1, 3)
        self.by(3)
        self.do(0, "transfer", 1, 2)
        self.by(2)
        self.do(1, "dissolve", 1)

    def test_level_for_others_pieces_and_other_parts_stay(self):
        self.do(2, "guard", 1, 3, 2)
        self.do(0, "grant", 2, 5, 3, 1)
        self.do(0, "transfer", 1, 2)
        self.tells([1, 1, 2, 2, 2, 1, 5, 3, 1, 1], "part", 2)
        self.assertEqual(self.desk.column(5), [[1], [1, 2], [2], []])

    def test_back_again_a_grant_that_went_is_gone(self):
        self.do(0, "grant", 1, 2, 3, 1)
        self.do(0, "transfer", 1, 2)
        self.by(2)
        self.do(0, "transfer", 1, 1)
        self.tells([1, 1, 0, 2, 2, 0], "part", 1)
        self.tells(0, "level", 1, 2)

    def test_no_part_in_force(self):
        for t in (0, 2, -1, 501, FAR, -FAR):
            self.refused(-4, "transfer", t, 2)
        self.do(2, "dissolve", 1)
        self.refused(-4, "transfer", 1, 2)

    def test_no_author(self):
        for a in (0, 100, -1, FAR, -FAR):
            self.refused(-2, "transfer", 1, a)

    def test_to_the_owner(self):
        self.refused(-3, "transfer", 1, 1)

    def test_not_the_owner(self):
        self.do(0, "grant", 1, 2, 3, 1)
        self.by(2)
        self.refused(-9, "transfer", 1, 3)
        self.refused(-9, "transfer", 1, 2)

    def test_order_of_refusals(self):
        self.by(2)
        self.refused(-4, "transfer", 2, 0)
        self.refused(-2, "transfer", 1, 0)
        self.refused(-9, "transfer", 1, 1)

    def test_first_and_last_part(self):
        for t in range(2, 501):
            self.do(t, "guard", 0, 1, 3)
        self.do(0, "transfer", 500, 7)
        self.do(0, "transfer", 1, 8)
        self.tells([1, 7, 3, 1, 1, 0], "part", 500)
        self.tells([1, 8, 0, 2, 2, 0], "part", 1)
        self.refused(-4, "transfer", 501, 7)


if __name__ == "__main__":
    unittest.main()
