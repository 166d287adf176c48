"""Promises 12 and 13: grant, revoke; and the grounds of grants."""

import unittest

from guardedparts import parts
from helper import FAR, DeskCase


class GrantCase(DeskCase):
    def setUp(self):
        DeskCase.setUp(self)
        self.do(0, "put", 0, "abcd")
        self.do(1, "guard", 1, 3, 0)

    def given(self, giver, a, level, pass_on, answer=0):
        """Let giver grant a."""
        self.do(0, "author", giver)
        self.do(answer, "grant", 1, a, level, pass_on)

    def not_given(self, giver, a, level, pass_on, answer=-9):
        """Let giver try to grant a."""
        self.do(0, "author", giver)
        self.refused(answer, "grant", 1, a, level, pass_on)

    def chain(self, last):
        """Let each author up to the last one grant the next."""
        for a in range(2, last + 1):
            self.given(a - 1, a, 3, 1)

    def holders(self):
        """The authors that have grants."""
        return [held[0] for held in self.desk.grants(1)]


class Grant(GrantCase):
    def test_owner_gives(self):
        self.given(1, 2, 3, 1)
        self.given(1, 99, 0, 0)
        self.assertEqual(self.desk.grants(1), [(2, 3, True, 1), (99, 0, False, 1)])

    def test_no_part_in_force(self):
        for t in (0, 2, -1, FAR, -FAR):
            self.refused(-4, "grant", t, 2, 1, 0)
        self.do(2, "dissolve", 1)
        self.refused(-4, "grant", 1, 2, 1, 0)

    def test_out_of_range(self):
        for a in (0, 100, -1, FAR, -FAR):
            self.refused(-2, "grant", 1, a, 1, 0)
        for level in (-1, 4, FAR, -FAR):
            self.refused(-2, "grant", 1, 2, level, 0)
        for pass_on in (-1, 2, FAR, -FAR):
            self.refused(-2, "grant", 1, 2, 1, pass_on)

    def test_not_to_owner_or_oneself(self):
        self.refused(-3, "grant", 1, 1, 1, 0)
        self.given(1, 2, 3, 1)
        self.not_given(2, 2, 1, 0, -3)
        self.not_given(2, 1, 1, 0, -3)

    def test_order_of_refusals(self):
        self.do(0, "author", 3)
        self.refused(-4, "grant", 2, 0, 4, 2)
        self.refused(-2, "grant", 1, 3, 4, 0)
        self.refused(-2, "grant", 1, 1, 0, 2)
        self.refused(-3, "grant", 1, 3, 3, 0)
        self.refused(-3, "grant", 1, 1, 3, 0)
        self.refused(-9, "grant", 1, 2, 3, 0)

    def test_without_a_grant(self):
        self.do(0, "others", 1, 3)
        self.not_given(2, 3, 0, 0)

    def test_grant_that_may_not_be_passed_on(self):
        self.given(1, 2, 3, 0)
        self.not_given(2, 3, 0, 0)

    def test_passed_on_up_to_its_level(self):
        self.given(1, 2, 2, 1)
        self.not_given(2, 3, 3, 0)
        self.given(2, 3, 2, 1)
        self.given(2, 4, 0, 0)
        self.given(3, 5, 2, 0)
        self.not_given(3, 6, 3, 0)
        self.assertEqual(
            self.desk.grants(1),
            [(2, 2, True, 1), (3, 2, True, 2), (4, 0, False, 2), (5, 2, False, 3)],
        )

    def test_level_for_others_is_not_passed_on(self):
        self.given(1, 2, 1, 1)
        self.do(0, "others", 1, 3)
        self.not_given(2, 3, 2, 0)
        self.given(2, 3, 1, 0)

    def test_grant_of_another_giver_is_not_replaced(self):
        self.given(1, 2, 3, 1)
        self.given(1, 3, 3, 1)
        self.given(2, 4, 1, 0)
        self.not_given(3, 4, 2, 0)
        self.not_given(3, 2, 2, 0)
        self.given(2, 4, 2, 0)
        self.given(1, 4, 3, 1)
        self.not_given(2, 4, 1, 0)
        self.assertEqual(self.desk.grants(1), [(2, 3, True, 1), (3, 3, True, 1), (4, 3, True, 1)])

    def test_other_parts_stay(self):
        self.do(2, "guard", 0, 4, 0)
        self.given(1, 2, 3, 1)
        self.do(0, "author", 2)
        self.refused(-9, "grant", 2, 3, 1, 0)
        self.assertEqual(self.desk.grants(2), [])

    def test_level_upon_pieces(self):
        for level, off, on in ((0, -9, -9), (1, -9, -9), (2, -9, 1), (3, 0, 2)):
            self.given(1, 2, level, 0)
            self.do(0, "author", 2)
            self.do(0, "track", 0)
            self.do(off, "paint", 1, 2, 0, 1 + level)
            self.do(0, "track", 1)
            self.do(on, "paint", 1, 2, 1, 1 + level)


class Grounds(GrantCase):
    def test_lower_level_takes_ground_away(self):
        self.given(1, 2, 3, 1)
        self.given(2, 3, 3, 0)
        self.given(2, 4, 2, 0)
        self.given(1, 2, 2, 1, 1)
        self.assertEqual(self.desk.grants(1), [(2, 2, True, 1), (4, 2, False, 2)])

    def test_no_passing_on_takes_ground_away(self):
        self.given(1, 2, 3, 1)
        self.given(2, 3, 0, 0)
        self.given(2, 4, 2, 0)
        self.given(1, 2, 3, 0, 2)
        self.assertEqual(self.holders(), [2])

    def test_same_grant_again_takes_nothing(self):
        self.chain(5)
        self.given(1, 2, 3, 1, 0)
        self.given(3, 4, 3, 1, 0)
        self.assertEqual(self.holders(), [2, 3, 4, 5])

    def test_several_steps(self):
        self.chain(6)
        self.given(3, 7, 1, 0)
        self.given(1, 8, 3, 1)
        self.given(2, 3, 2, 1, 3)
        self.assertEqual(self.holders(), [2, 3, 7, 8])

    def test_several_steps_with_authors_falling(self):
        self.given(1, 9, 3, 1)
        for a in range(8, 1, -1):
            self.given(a + 1, a, 3, 1)
        self.assertEqual(self.holders(), [2, 3, 4, 5, 6, 7, 8, 9])
        self.given(1, 9, 3, 0, 7)
        self.assertEqual(self.holders(), [9])

    def test_owners_grant_in_the_middle_stands_by_itself(self):
        self.chain(5)
        self.given(1, 4, 3, 1, 0)
        self.given(1, 2, 0, 0, 1)
        self.assertEqual(self.desk.grants(1), [(2, 0, False, 1), (4, 3, True, 1), (5, 3, True, 4)])

    def test_lower_level_further_down(self):
        self.given(1, 2, 3, 1)
        self.given(2, 3, 2, 1)
        self.given(3, 4, 1, 1)
        self.given(4, 5, 1, 1)
        self.given(1, 2, 2, 1, 0)
        self.given(2, 3, 1, 1, 0)
        self.given(2, 3, 0, 1, 2)
        self.assertEqual(self.holders(), [2, 3])

    def test_rights_go_with_the_grant(self):
        self.chain(4)
        self.do(0, "author", 4)
        self.do(0, "cut", 1, 2)
        self.given(1, 2, 3, 0, 2)
        self.do(0, "author", 4)
        self.refused(-9, "cut", 1, 2)

    def test_all_authors_in_a_chain(self):
        self.chain(99)
        self.assertEqual(self.holders(), list(range(2, 100)))
        self.given(1, 2, 2, 1, 97)
        self.assertEqual(self.holders(), [2])


class PartByHand(unittest.TestCase):
    def kept(self, grants):
        """The authors whose grants have a ground; owner 1, grants as author, level, passed on, giver."""
        part = parts.Part(1, 0)
        for a, level, pass_on, giver in grants:
            part.grants[a] = parts.Grant(level, pass_on, giver)
        dropped = part.drop_groundless()
        self.assertEqual(dropped, len(grants) - len(part.grants))
        return sorted(part.grants)

    def test_giver_behind(self):
        self.assertEqual(self.kept([(4, 1, True, 3), (3, 1, True, 2), (2, 1, True, 1)]), [2, 3, 4])
        self.assertEqual(self.kept([(4, 1, True, 3), (3, 2, True, 2), (2, 1, True, 1)]), [2])

    def test_levels(self):
        part = parts.Part(1, 1)
        part.grants[2] = parts.Grant(2, False, 1)
        part.grants[3] = parts.Grant(0, False, 1)
        self.assertEqual([part.level_of(a) for a in (1, 2, 3, 4)], [3, 2, 1, 1])

    def test_round_without_the_owner(self):
        self.assertEqual(self.kept([(2, 1, True, 3), (3, 1, True, 2), (4, 1, True, 1)]), [4])


class Revoke(GrantCase):
    def test_by_the_owner(self):
        self.given(1, 2, 3, 1)
        self.given(2, 3, 3, 1)
        self.given(3, 4, 3, 1)
        self.do(0, "author", 1)
        self.do(1, "revoke", 1, 4)
        self.do(2, "revoke", 1, 2)
        self.assertEqual(self.holders(), [])

    def test_by_the_giver(self):
        self.chain(5)
        self.do(0, "author", 2)
        self.refused(-9, "revoke", 1, 4)
        self.do(3, "revoke", 1, 3)
        self.assertEqual(self.holders(), [2])

    def test_by_the_holder(self):
        self.chain(5)
        self.do(0, "author", 3)
        self.do(3, "revoke", 1, 3)
        self.refused(-5, "revoke", 1, 3)

    def test_by_nobody_else(self):
        self.chain(5)
        self.do(0, "author", 5)
        self.refused(-9, "revoke", 1, 4)
        self.refused(-9, "revoke", 1, 2)
        self.do(0, "author", 6)
        self.refused(-9, "revoke", 1, 2)

    def test_no_part_in_force(self):
        self.given(1, 2, 3, 1)
        for t in (0, 2, -1, FAR, -FAR):
            self.refused(-4, "revoke", t, 2)
        self.do(2, "dissolve", 1)
        self.refused(-4, "revoke", 1, 2)

    def test_no_grant(self):
        self.given(1, 2, 3, 1)
        for a in (1, 3, 0, 100, -1, FAR, -FAR):
            self.refused(-5, "revoke", 1, a)

    def test_order_of_refusals(self):
        self.given(1, 2, 3, 1)
        self.do(0, "author", 3)
        self.refused(-4, "revoke", 2, 4)
        self.refused(-5, "revoke", 1, 4)
        self.refused(-9, "revoke", 1, 2)

    def test_former_giver_has_no_say(self):
        self.chain(3)
        self.given(1, 3, 3, 1)
        self.do(0, "author", 2)
        self.refused(-9, "revoke", 1, 3)

    def test_grants_on_other_grounds_stay(self):
        self.chain(4)
        self.given(1, 5, 3, 1)
        self.given(5, 6, 3, 1)
        self.do(0, "author", 1)
        self.do(3, "revoke", 1, 2)
        self.assertEqual(self.holders(), [5, 6])

    def test_given_anew_by_another(self):
        self.chain(3)
        self.given(1, 4, 3, 1)
        self.do(0, "author", 2)
        self.do(1, "revoke", 1, 3)
        self.given(4, 3, 1, 0)
        self.assertEqual(self.desk.grants(1)[1], (3, 1, False, 4))


if __name__ == "__main__":
    unittest.main()
