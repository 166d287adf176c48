"""The interface: how calls and answers are laid; long lines; the document's example."""

import os
import subprocess
import sys
import unittest

from guardedparts.document import answers
from helper import FAR, NUMBERS, Desk, DeskCase, apart, laid

TOP = os.path.dirname(os.path.dirname(os.path.abspath(__file__)))


def line(*calls):
    """Calls laid into one list."""
    return [number for call in calls for number in laid(*call)]


class Laying(unittest.TestCase):
    def test_by_the_letter(self):
        calls = [0, 1, 1, 0, 2, 0, 3, 0, 4, 97, 98, 99, 100, 4, 0, 1, 5, 0, 2, 1, 7, 6, 0, 1, 2,
                 7, 0, 3, 1, 9, 1, 2, 10, 1, 2, 3, 1, 11, 1, 2, 8, 1, 23]
        self.assertEqual(
            answers(calls),
            [1, 0, 1, 0, 1, 0, 1, 0, 1, 0, 1, 0, 1, 0, 1, 1, 1, 1, 1, 0, 1, 1, 1, 3, 1, 0],
        )

    def test_the_calls_from_transfer_by_the_letter(self):
        calls = [3, 0, 2, 97, 98, 7, 0, 1, 1, 10, 1, 3, 2, 1, 2, 1, 1, 8, 4, 0, 1, 5, 0, 1, 3, 9,
                 15, 0, 1, 17, 2, 0, 18, 1, 3, 19, 1, 20, 21, 1, 21, 2, 22, 1, 22, 2, 23,
                 13, 1, 14, 2, 16, 1, 12, 1, 2, 19, 1, 20]
        self.assertEqual(
            answers(calls),
            [1, 0, 1, 1, 1, 0, 1, 0, 1, 0, 1, 1, 1, 2, 1, 1,
             3, 3, 3, 0, 1, 2, 10, 1, 1, 1, 1, 0, 1, 3, 2, 1, 1,
             34, 3, 97, 0, 0, 0, 0, 0, 1, 1, 0, 1, 1, 98, 0, 0, 0, 0, 0, 0, 1, 2, 3, 9, 1, 501,
             10, 0, 0, 0, 0, 0, 0, 0, 0,
             11, 2, 98, 0, 0, 0, 9, 10, 0, 0, 0, 0,
             16, 3, 97, 0, 0, 0, 0, 98, 0, 0, 0, 0, 10, 0, 0, 0, 0,
             4, 1, 8, 2, 1, 4, 1, 8, 3, 1, 4, 1, 1, 1, 1,
             1, 1, 1, 1, 1, 1, 1, 1, 10, 1, 2, 1, 0, 0, 1, 3, 2, 1, 2,
             19, 2, 98, 0, 0, 0, 0, 0, 0, 0, 0, 10, 0, 0, 0, 0, 0, 0, 0, 0],
        )

    def test_refusals_stand_alone(self):
        calls = [0, 0, 1, -1, 2, 2, 3, 1, 0, 3, 0, 0, 3, 0, 1, 9, 4, 0, 1, 5, 0, 2, 0, 0, 5, 0, 1, 4, 0,
                 6, 0, 1, 0, 7, 0, 2, 0, 7, 0, 1, 4, 8, 1, 9, 1, 0, 10, 1, 2, 0, 0, 11, 1, 2]
        self.assertEqual(
            apart(answers(calls)),
            [[-2], [-2], [-2], [-1], [-2], [-2], [-1], [-1], [-2], [-1], [-1], [-2], [-4], [-4], [-4], [-4]],
        )
        calls = [12, 1, 2, 13, 1, 14, 1, 15, 0, 2, 16, 1, 17, 0, 0, 17, 1, 1, 18, 1, 1, 19, 1, 21, 0, 22, 1]
        self.assertEqual(
            apart(answers(calls)),
            [[-4], [-4], [-4], [-1], [-4], [-2], [-1], [-4], [-4], [-2], [-4]],
        )

    def test_signs_that_look_like_calls(self):
        calls = [3, 0, 3, 4, 0, 1, 3, 0, 2, 32, 33, 4, 0, 2, 4, 0, 1]
        self.assertEqual(apart(answers(calls)), [[-2], [0], [0], [-1]])

    def test_whole_numbers_of_pythons_int(self):
        told = answers(line(("put", 0, "abc"), ("guard", 0, 3, 0), ("others", 1, 1), ("track", 1),
                            ("grant", 1, 2, 3, 1), ("grant", 1, 3, 3, 0), ("paint", 0, 1, 0, 1), ("note", 0, 2),
                            ("cut", 0, 1), ("move", 0, 1, 2), ("part", 1), ("row",), ("text", 1), ("text", 2),
                            ("change", 1), ("right", 2, 0), ("level", 1, 2), ("notes",), ("accept", 1),
                            ("reject", 2), ("unnote", 1), ("transfer", 1, 2), ("author", 2), ("dissolve", 1),
                            ("part", 1), ("notes",)))
        self.assertEqual(len(apart(told)), 26)
        self.assertIs(type(told), list)
        for number in told:
            self.assertIs(type(number), int)

    def test_farthest_numbers(self):
        names = {"author": 1, "clock": 1, "track": 1, "cut": 2, "paint": 4, "move": 3, "guard": 3,
                 "dissolve": 1, "others": 2, "grant": 4, "revoke": 2, "transfer": 2, "accept": 1, "reject": 1,
                 "note": 2, "unnote": 1, "right": 2, "level": 2, "part": 1, "text": 1, "change": 1}
        for name, width in names.items():
            for far in (FAR, -FAR):
                told = answers(laid(name, *[far] * width))
                if (name, far) == ("clock", FAR):
                    self.assertEqual(told, [1, 0])
                else:
                    self.assertEqual(told[0], 1)
                    self.assertLess(told[1], 0)
        self.assertEqual(answers(line(("put", FAR, [FAR]))), [1, -1])
        self.assertEqual(answers(line(("put", 0, [FAR] * 2000))), [1, -2])


class Keeping(unittest.TestCase):
    CALLS = line(("put", 0, "abcd"), ("guard", 1, 3, 1), ("author", 2), ("cut", 1, 2), ("track", 1),
                 ("put", 1, "xy"), ("move", 1, 3, 4), ("paint", 0, 1, 0, 9), ("clock", 5), ("clock", 4),
                 ("note", 0, 3), ("row",), ("text", 1), ("accept", 1), ("reject", 2), ("author", 1),
                 ("transfer", 1, 2), ("part", 1), ("change", 2), ("notes",), ("author", 2), ("unnote", 1), ("row",))

    def test_handed_in_stays(self):
        calls = list(self.CALLS)
        answers(calls)
        self.assertEqual(calls, self.CALLS)

    def test_handed_in_twice(self):
        first = answers(self.CALLS)
        answers(line(("author", 9), ("clock", 99), ("track", 1), ("put", 0, "zzz"), ("guard", 0, 4, 0)))
        self.assertEqual(answers(self.CALLS), first)
        self.assertEqual(answers(list(self.CALLS)), first)

    def test_answer_is_a_list_of_its_own(self):
        first = answers(self.CALLS)
        kept = list(first)
        first.clear()
        self.assertEqual(answers(self.CALLS), kept)

    def test_nothing_is_printed(self):
        code = "from guardedparts.document import answers; answers([3, 0, 1, 65, 7, 0, 1, 0, 23])"
        done = subprocess.run([sys.executable, "-B", "-c", code], cwd=TOP, capture_output=True,
                              stdin=subprocess.DEVNULL, check=True)
        self.assertEqual((done.stdout, done.stderr), (b"", b""))


class Example(DeskCase):
    def begin(self):
        self.do(0, "put", 0, "abcd")
        self.do(1, "guard", 1, 3, 1)
        self.do(0, "author", 2)
        self.refused(-9, "cut", 1, 2)
        self.do(0, "put", 1, "x")
        self.assertEqual(self.desk.row_text(), "axbcd")
        self.assertEqual(self.desk.column(5), [[], [], [1], [1], [], []])
        self.do(0, "author", 1)
        self.do(0, "grant", 1, 2, 2, 1)
        self.do(0, "author", 2)
        self.do(0, "track", 1)
        self.do(1, "cut", 2, 3)
        self.do(0, "grant", 1, 3, 2, 0)
        self.refused(-9, "accept", 1)

    def test_the_documents_example(self):
        self.begin()
        self.tells([1, 1, 1, 2, 1, 2, 2, 2, 1, 1, 3, 2, 0, 2], "part", 1)
        self.do(0, "author", 1)
        self.do(2, "revoke", 1, 2)
        self.tells([1, 1, 1, 2, 1, 0], "part", 1)
        self.tells([2, 0, 2, 1], "change", 1)

    def test_author_2_may_reject(self):
        self.begin()
        self.do(1, "reject", 1)
        self.assertEqual(self.desk.row_text(), "axbcd")
        self.do(0, "author", 1)
        self.do(2, "revoke", 1, 2)

    def test_had_the_b_been_cut_before(self):
        self.do(0, "put", 0, "abcd")
        self.do(1, "guard", 1, 3, 1)
        self.do(0, "author", 2)
        self.do(0, "put", 1, "x")
        self.do(0, "author", 1)
        self.do(0, "track", 1)
        self.do(1, "cut", 2, 3)
        self.do(0, "track", 0)
        self.do(0, "author", 2)
        self.tells([1, 1, 1], "right", 2, 2)
        self.refused(-9, "put", 2, "y")
        self.do(0, "put", 1, "y")


class LongLines(unittest.TestCase):
    def test_1000_calls_of_one_sign(self):
        calls = []
        for k in range(1000):
            calls.extend([3, k, 1, 32 + k % 95])
        self.assertEqual(answers(calls), [1, 0] * 1000)

    def test_1000_calls_of_many_sorts(self):
        calls = [["track", 1], ["put", 0, [65] * 2000], ["put", 1000, [66] * 2000], ["put", 0, [10] * 2000]]
        want = [0, 1, 2, 3]
        change = 3
        for k in range(249):
            calls.append(["author", 2 + k % 2])
            calls.append(["paint", 0, 6001, k % 4, k % 99 + 1])
            calls.append(["cut", k, k + 1])
            calls.append(["put", k, "x"])
            want.extend([0, change + 1, change + 2, change + 3])
            change += 3
        self.assertEqual(len(calls), 1000)
        self.assertEqual([answer[0] for answer in apart(answers(line(*calls)))], want)

    def test_many_copies(self):
        """Each half is moved by another author than the last time, so the row grows by thousands of pieces."""
        calls = [["put", 0, [65] * 2000] for k in range(8)] + [["track", 1]]
        want = [0] * 9
        for k in range(60):
            calls.append(["author", 1 + k % 3])
            calls.append(["move", 0, 8000, 16000])
            want.extend([0, k + 1])
        desk = Desk()
        told = [desk.do(*call)[0] for call in calls]
        self.assertEqual(told, want)
        self.assertEqual(len(desk.state.row.shown), 16001)
        self.assertEqual(len(desk.pieces()), 16001 + 60 * 8000)

    def test_500_parts_on_many_pieces(self):
        calls = [["put", 0, [65] * 2000] for k in range(6)]
        calls += [["guard", 0, 12001, 3] for k in range(500)]
        calls += [["dissolve", t] for t in range(1, 495)]
        self.assertEqual(len(calls), 1000)
        want = [0] * 6 + list(range(1, 501)) + [12001] * 494
        self.assertEqual([answer[0] for answer in apart(answers(line(*calls)))], want)

    def test_1000_calls_of_all_kinds(self):
        """39 rounds of the same calls, each ahead of what the one before left; then all is told."""
        calls = []
        want = []
        row, shown, former = [], [], []
        for k in range(39):
            t, note, c, v = k + 1, k + 1, 4 * k, k % 2 + 1
            calls += [
                ["author", 1], ["clock", k], ["track", 0], ["put", 0, "abcdef"], ["guard", 0, 3, 2], ["track", 1],
                ["grant", t, 2, 2, 1], ["author", 2], ["put", 1, "x"], ["cut", 0, 1], ["paint", 1, 3, 1, v],
                ["move", 4, 5, 3], ["note", 0, 2], ["right", 3, 0], ["level", t, 2], ["part", t], ["reject", c + 2],
                ["author", 1], ["accept", c + 1], ["change", c + 3], ["transfer", t, 3], ["author", 3],
                ["others", t, 1], ["revoke", t, 2], ["dissolve", t],
            ]
            want += [
                [0], [0], [0], [0], [t], [0],
                [0], [0], [c + 1], [c + 2], [c + 3],
                [c + 4], [note], [2, 2, 1], [2], [1, 1, 2, 4, 3, 1, 2, 2, 1, 1], [1],
                [0], [1], [2, k, 3, 2], [1], [0],
                [2], [1], [4],
            ]
            tags = [0] if note <= 20 else [1, 500 + note]
            row = ([97, 0, 0, 0, 0, 0, 0, 0, 0] + [120, 0, 0, 0, 0, 0, 0, 0] + tags
                   + [98, 0, 0, 0, 0, 0, 0, 1, c + 3, 1, v] + tags + [99, 0, 0, 0, 0, 0, 0, 1, c + 3, 1, v, 0]
                   + [101, 0, 0, 0, 0, 1, c + 4, 0, 0, 0] + [100, 0, 0, 0, 0, 0, 0, 0, 0]
                   + [101, 0, 0, 0, 0, 0, 1, c + 4, 0, 0] + [102, 0, 0, 0, 0, 0, 0, 0, 0]) + row
            shown = [97, 0, 0, 0, 0, 120, 0, 0, 0, 0, 98, 0, v, 0, 0, 99, 0, v, 0, 0,
                     101, 0, 0, 0, 0, 100, 0, 0, 0, 0, 102, 0, 0, 0, 0] + shown
            former = [97, 0, 0, 0, 0, 120, 0, 0, 0, 0, 98, 0, 0, 0, 0, 99, 0, 0, 0, 0,
                      100, 0, 0, 0, 0, 101, 0, 0, 0, 0, 102, 0, 0, 0, 0] + former
        calls += [["author", 2]] + [["unnote", note] for note in range(1, 21)]
        want += [[0]] + [[2]] * 20
        calls += [["notes"], ["row"], ["text", 1], ["text", 2]]
        want += [
            [19] + [number for note in range(21, 40) for number in (note, 2, 2)],
            [39 * 8 + 1] + row + [10, 0, 0, 0, 0, 0, 0, 0, 0],
            [39 * 7 + 1] + shown + [10, 0, 0, 0, 0],
            [39 * 7 + 1] + former + [10, 0, 0, 0, 0],
        ]
        self.assertEqual(len(calls), 1000)
        self.assertEqual({call[0] for call in calls}, set(NUMBERS))
        self.assertEqual(apart(answers(line(*calls))), want)

    def test_many_pending_looks_decided(self):
        """Each piece has hundreds of pending looks, which are accepted and rejected one by one."""
        n = 12000
        calls = [["put", 0, [65] * 2000] for k in range(6)] + [["track", 1]]
        calls += [["paint", 0, n, 0, k % 2 + 1] for k in range(400)]
        calls += [["reject", 400 - k] for k in range(200)] + [["accept", k + 1] for k in range(200)]
        calls += [["text", 1], ["text", 2]]
        told = apart(answers(line(*calls)))
        self.assertEqual([answer[0] for answer in told[7:407]], list(range(1, 401)))
        self.assertEqual(told[407:807], [[n]] * 400)
        self.assertEqual(told[807], [n + 1] + [65, 2, 0, 0, 0] * n + [10, 0, 0, 0, 0])
        self.assertEqual(told[808], told[807])

    def test_answers_of_millions_of_numbers(self):
        calls = [["put", 0, [65, 10] * 1000] for k in range(8)] + [["row"]] * 60
        told = answers(line(*calls))
        each = [16001 * 9 + 1, 16001] + [65, 0, 0, 0, 0, 0, 0, 0, 0, 10, 0, 0, 0, 0, 0, 0, 0, 0] * 8000
        each += [10, 0, 0, 0, 0, 0, 0, 0, 0]
        self.assertEqual(told, [1, 0] * 8 + each * 60)


if __name__ == "__main__":
    unittest.main()
