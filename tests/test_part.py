"""Promise 21: part."""

import unittest

from helper import FAR, DeskCase


class Part(DeskCase):
    def setUp(self):
        DeskCase.setUp(self)
        self.do(0, "put", 0, "abcd")
        self.do(0, "author", 5)
        self.do(1, "guard", 1, 4, 2)

    def test_new(self):
        self.tells([1, 5, 2, 3, 3, 0], "part", 1)

    def test_pieces_and_those_shown(self):
        self.do(0, "track", 1)
        self.do(1, "cut", 1, 2)
        self.tells([1, 5, 2, 3, 2, 0], "part", 1)
        self.do(2, "move", 1, 3, 0)
        self.assertEqual(self.desk.row_text(), "cda[b][c][d]")
        self.tells([1, 5, 2, 5, 2, 0], "part", 1)
        self.do(1, "accept", 1)
        self.tells([1, 5, 2, 4, 2, 0], "part", 1)
        self.do(4, "reject", 2)
        self.tells([1, 5, 2, 2, 2, 0], "part", 1)
        self.do(0, "track", 0)
        self.do(0, "cut", 1, 3)
        self.tells([1, 5, 2, 0, 0, 0], "part", 1)

    def test_grants_by_rising_authors(self):
        self.do(0, "grant", 1, 99, 3, 1)
        self.do(0, "grant", 1, 1, 0, 0)
        self.do(0, "grant", 1, 40, 2, 1)
        self.do(0, "author", 40)
        self.do(0, "grant", 1, 7, 1, 0)
        self.tells([1, 5, 2, 3, 3, 4, 1, 0, 0, 5, 7, 1, 0, 40, 40, 2, 1, 5, 99, 3, 1, 5], "part", 1)

    def test_a_grant_in_place_of_another(self):
        self.do(0, "grant", 1, 2, 3, 1)
        self.do(0, "grant", 1, 2, 1, 0)
        self.tells([1, 5, 2, 3, 3, 1, 2, 1, 0, 5], "part", 1)
        self.do(1, "revoke", 1, 2)
        self.tells([1, 5, 2, 3, 3, 0], "part", 1)

    def test_dissolved(self):
        self.do(0, "grant", 1, 2, 3, 1)
        self.do(0, "author", 2)
        self.do(0, "grant", 1, 3, 2, 0)
        self.do(0, "author", 5)
        self.do(2, "others", 1, 1)
        self.do(3, "dissolve", 1)
        self.tells([0, 5, 1, 0, 0, 2, 2, 3, 1, 5, 3, 2, 0, 2], "part", 1)
        for call in (("others", 1, 0), ("grant", 1, 4, 0, 0), ("revoke", 1, 2), ("transfer", 1, 2), ("dissolve", 1)):
            self.refused(-4, *call)

    def test_dissolved_behind_a_transfer(self):
        self.do(0, "grant", 1, 3, 1, 0)
        self.do(1, "transfer", 1, 2)
        self.do(0, "author", 2)
        self.do(3, "dissolve", 1)
        self.tells([0, 2, 2, 0, 0, 1, 3, 1, 0, 2], "part", 1)

    def test_never_made(self):
        for t in (0, 2, -1, 500, 501, FAR, -FAR):
            self.refused(-4, "part", t)

    def test_other_parts_and_notes_apart(self):
        self.do(2, "guard", 3, 5, 0)
        self.do(1, "note", 0, 5)
        self.tells([1, 5, 2, 3, 3, 0], "part", 1)
        self.tells([1, 5, 0, 2, 2, 0], "part", 2)

    def test_first_and_last(self):
        for t in range(2, 501):
            self.do(t, "guard", 4, 5, 3)
        self.tells([1, 5, 2, 3, 3, 0], "part", 1)
        self.tells([1, 5, 3, 1, 1, 0], "part", 500)
        self.refused(-4, "part", 501)

    def test_98_grants(self):
        want = [1, 5, 2, 3, 3, 98]
        for a in range(99, 0, -1):
            if a != 5:
                self.do(0, "grant", 1, a, a % 4, a % 2)
        for a in range(1, 100):
            if a != 5:
                want += [a, a % 4, a % 2, 5]
        self.tells(want, "part", 1)


if __name__ == "__main__":
    unittest.main()
