"""The interface: how calls and answers are laid; long lines; the document's example."""

import os
import subprocess
import sys
import unittest

from guardedparts.document import answers
from helper import FAR, Desk, DeskCase, apart, laid

TOP = os.path.dirname(os.path.dirname(os.path.abspath(__file__)))


def line(*calls):
    """Calls laid into one list."""
    return [number for call in calls for number in laid(*call)]


class Laying(unittest.TestCase):
    def test_by_the_letter(self):
        calls = [0, 1, 1, 0, 2, 0, 3, 0, 4, 97, 98, 99, 100, 4, 0, 1, 5, 0, 2, 1, 7, 6, 0, 1, 2,
                 7, 0, 3, 1, 9, 1, 2, 10, 1, 2, 3, 1, 11, 1, 2, 8, 1, 23]
        self.assertEqual(
            answers(calls),
            [1, 0, 1, 0, 1, 0, 1, 0, 1, 0, 1, 0, 1, 0, 1, 1, 1, 1, 1, 0, 1, 1, 1, 3, 1, 0],
        )

    def test_refusals_stand_alone(self):
        calls = [0, 0, 1, -1, 2, 2, 3, 1, 0, 3, 0, 0, 3, 0, 1, 9, 4, 0, 1, 5, 0, 2, 0, 0, 5, 0, 1, 4, 0,
                 6, 0, 1, 0, 7, 0, 2, 0, 7, 0, 1, 4, 8, 1, 9, 1, 0, 10, 1, 2, 0, 0, 11, 1, 2]
        self.assertEqual(
            apart(answers(calls)),
            [[-2], [-2], [-2], [-1], [-2], [-2], [-1], [-1], [-2], [-1], [-1], [-2], [-4], [-4], [-4], [-4]],
        )

    def test_signs_that_look_like_calls(self):
        calls = [3, 0, 3, 4, 0, 1, 3, 0, 2, 32, 33, 4, 0, 2, 4, 0, 1]
        self.assertEqual(apart(answers(calls)), [[-2], [0], [0], [-1]])

    def test_whole_numbers_of_pythons_int(self):
        told = answers(line(("put", 0, "abc"), ("guard", 0, 3, 0), ("others", 1, 1), ("track", 1),
                            ("paint", 0, 1, 0, 1), ("dissolve", 1), ("notes",)))
        self.assertIs(type(told), list)
        for number in told:
            self.assertIs(type(number), int)

    def test_farthest_numbers(self):
        names = {"author": 1, "clock": 1, "track": 1, "cut": 2, "paint": 4, "move": 3, "guard": 3,
                 "dissolve": 1, "others": 2, "grant": 4, "revoke": 2}
        for name, width in names.items():
            for far in (FAR, -FAR):
                told = answers(laid(name, *[far] * width))
                if (name, far) == ("clock", FAR):
                    self.assertEqual(told, [1, 0])
                else:
                    self.assertEqual(told[0], 1)
                    self.assertLess(told[1], 0)
        self.assertEqual(answers(line(("put", FAR, [FAR]))), [1, -1])
        self.assertEqual(answers(line(("put", 0, [FAR] * 2000))), [1, -2])


class Keeping(unittest.TestCase):
    CALLS = line(("put", 0, "abcd"), ("guard", 1, 3, 1), ("author", 2), ("cut", 1, 2), ("track", 1),
                 ("put", 1, "xy"), ("move", 1, 3, 4), ("paint", 0, 1, 0, 9), ("clock", 5), ("clock", 4))

    def test_handed_in_stays(self):
        calls = list(self.CALLS)
        answers(calls)
        self.assertEqual(calls, self.CALLS)

    def test_handed_in_twice(self):
        first = answers(self.CALLS)
        answers(line(("author", 9), ("clock", 99), ("track", 1), ("put", 0, "zzz"), ("guard", 0, 4, 0)))
        self.assertEqual(answers(self.CALLS), first)
        self.assertEqual(answers(list(self.CALLS)), first)

    def test_answer_is_a_list_of_its_own(self):
        first = answers(self.CALLS)
        kept = list(first)
        first.clear()
        self.assertEqual(answers(self.CALLS), kept)

    def test_nothing_is_printed(self):
        code = "from guardedparts.document import answers; answers([3, 0, 1, 65, 7, 0, 1, 0, 23])"
        done = subprocess.run([sys.executable, "-B", "-c", code], cwd=TOP, capture_output=True,
                              stdin=subprocess.DEVNULL, check=True)
        self.assertEqual((done.stdout, done.stderr), (b"", b""))


class Example(DeskCase):
    def test_the_documents_example(self):
        self.do(0, "put", 0, "abcd")
        self.do(1, "guard", 1, 3, 1)
        self.do(0, "author", 2)
        self.refused(-9, "cut", 1, 2)
        self.do(0, "put", 1, "x")
        self.assertEqual(self.desk.column(5), [[], [], [1], [1], [], []])
        self.do(0, "author", 1)
        self.do(0, "grant", 1, 2, 2, 1)
        self.do(0, "author", 2)
        self.do(0, "track", 1)
        self.do(1, "cut", 2, 3)
        self.do(0, "grant", 1, 3, 2, 0)
        self.do(0, "author", 1)
        self.do(2, "revoke", 1, 2)

    def test_had_the_b_been_cut_before(self):
        self.do(0, "put", 0, "abcd")
        self.do(1, "guard", 1, 3, 1)
        self.do(0, "author", 2)
        self.do(0, "put", 1, "x")
        self.do(0, "author", 1)
        self.do(0, "track", 1)
        self.do(1, "cut", 2, 3)
        self.do(0, "track", 0)
        self.do(0, "author", 2)
        self.refused(-9, "put", 2, "y")
        self.do(0, "put", 1, "y")


class LongLines(unittest.TestCase):
    def test_1000_calls_of_one_sign(self):
        calls = []
        for k in range(1000):
            calls.extend([3, k, 1, 32 + k % 95])
        self.assertEqual(answers(calls), [1, 0] * 1000)

    def test_1000_calls_of_many_sorts(self):
        calls = [["track", 1], ["put", 0, [65] * 2000], ["put", 1000, [66] * 2000], ["put", 0, [10] * 2000]]
        want = [0, 1, 2, 3]
        change = 3
        for k in range(249):
            calls.append(["author", 2 + k % 2])
            calls.append(["paint", 0, 6001, k % 4, k % 99 + 1])
            calls.append(["cut", k, k + 1])
            calls.append(["put", k, "x"])
            want.extend([0, change + 1, change + 2, change + 3])
            change += 3
        self.assertEqual(len(calls), 1000)
        self.assertEqual([answer[0] for answer in apart(answers(line(*calls)))], want)

    def test_many_copies(self):
        """Each half is moved by another author than the last time, so the row grows by thousands of pieces."""
        calls = [["put", 0, [65] * 2000] for k in range(8)] + [["track", 1]]
        want = [0] * 9
        for k in range(60):
            calls.append(["author", 1 + k % 3])
            calls.append(["move", 0, 8000, 16000])
            want.extend([0, k + 1])
        desk = Desk()
        told = [desk.do(*call)[0] for call in calls]
        self.assertEqual(told, want)
        self.assertEqual(len(desk.state.row.shown), 16001)
        self.assertEqual(len(desk.pieces()), 16001 + 60 * 8000)

    def test_500_parts_on_many_pieces(self):
        calls = [["put", 0, [65] * 2000] for k in range(6)]
        calls += [["guard", 0, 12001, 3] for k in range(500)]
        calls += [["dissolve", t] for t in range(1, 495)]
        self.assertEqual(len(calls), 1000)
        want = [0] * 6 + list(range(1, 501)) + [12001] * 494
        self.assertEqual([answer[0] for answer in apart(answers(line(*calls)))], want)


if __name__ == "__main__":
    unittest.main()
