"""All calls against a second telling of the document, as plain as can be, over many lines."""

import copy
import random
import unittest

from guardedparts.document import answers
from helper import FAR, Desk


class Plain:
    """The document's words by the letter: one row of dicts, walked anew for each question."""

    def __init__(self):
        self.author_now, self.time, self.tracking = 1, 0, 0
        self.pieces = [{"sign": 10, "look": [0, 0, 0, 0], "ins": [], "del": [], "pend": [], "tags": []}]
        self.changes, self.parts, self.made_by = [], [], []

    def shown(self):
        return [piece for piece in self.pieces if not piece["del"]]

    def where(self, piece):
        return [k for k, other in enumerate(self.pieces) if other is piece][0]

    def look(self, piece):
        look = list(piece["look"])
        for change, k, v in piece["pend"]:
            look[k] = v
        return look

    def own(self, piece):
        return bool(piece["ins"]) and self.changes[piece["ins"][-1] - 1][0] == self.author_now

    def level_of(self, t, a):
        part = self.parts[t - 1]
        if part["owner"] == a:
            return 3
        if a in part["grants"]:
            return max(part["others"], part["grants"][a][0])
        return part["others"]

    def level_in(self, tags, a=None):
        return min([3] + [self.level_of(t, a or self.author_now) for t in tags if t <= 500])

    def seam(self, p):
        shown = self.shown()
        here = shown[p]
        parts = set()
        if p > 0:
            parts |= set(here["tags"]) & set(shown[p - 1]["tags"])
        if self.where(here) > 0:
            parts |= set(here["tags"]) & set(self.pieces[self.where(here) - 1]["tags"])
        return {t for t in parts if t <= 500}

    def lacks(self, p, q, level):
        return any(self.level_in(piece["tags"]) < level for piece in self.shown()[p:q])

    def needed(self):
        return 2 if self.tracking else 3

    def bearers(self, c):
        return [piece for piece in self.pieces
                if c in piece["ins"] + piece["del"] + [entry[0] for entry in piece["pend"]]]

    def end(self, kind):
        m = len(self.changes) + 1
        if not self.bearers(m):
            return 0
        self.changes.append((self.author_now, self.time, kind))
        return m

    def author(self, a):
        if a < 1 or a > 99:
            return -2
        self.author_now = a
        return 0

    def clock(self, t):
        if t < 0:
            return -2
        if t < self.time:
            return -3
        self.time = t
        return 0

    def track(self, on):
        if on not in (0, 1):
            return -2
        self.tracking = on
        return 0

    def put(self, p, signs):
        shown = self.shown()
        n = len(shown)
        if p < 0 or p > n - 1:
            return -1
        if not signs or [sign for sign in signs if sign != 10 and (sign < 32 or sign > 126)]:
            return -2
        if self.level_in(self.seam(p)) < self.needed():
            return -9
        tags = self.seam(p)
        if p > 0:
            tags |= set(shown[p - 1]["tags"]) & set(shown[p]["tags"])
        new = []
        for sign in signs:
            look = [0, 0, 0, 0]
            if sign == 10:
                look = self.look([piece for piece in shown[p:] if piece["sign"] == 10][0])
            elif p > 0 and shown[p - 1]["sign"] != 10:
                look = self.look(shown[p - 1])
            new.append({"sign": sign, "look": look, "ins": [len(self.changes) + 1] if self.tracking else [],
                        "del": [], "pend": [], "tags": sorted(tags)})
        at = self.where(shown[p])
        self.pieces[at:at] = new
        return self.end(1)

    def cut(self, p, q):
        shown = self.shown()
        if not 0 <= p < q <= len(shown) - 1:
            return -1
        if self.lacks(p, q, self.needed()):
            return -9
        for piece in shown[p:q]:
            if not self.tracking or self.own(piece):
                self.pieces.pop(self.where(piece))
            else:
                piece["del"] = [len(self.changes) + 1]
        return self.end(2)

    def paint(self, p, q, k, v):
        shown = self.shown()
        if not 0 <= p < q <= len(shown):
            return -1
        if not 0 <= k <= 3 or not 0 <= v <= 99:
            return -2
        if self.lacks(p, q, self.needed()):
            return -9
        for piece in shown[p:q]:
            if not self.tracking or self.own(piece):
                piece["pend"] = [entry for entry in piece["pend"] if entry[1] != k]
                piece["look"][k] = v
            elif self.look(piece)[k] != v:
                piece["pend"].append([len(self.changes) + 1, k, v])
        return self.end(3)

    def move(self, p, q, r):
        shown = self.shown()
        n = len(shown)
        if not (0 <= p < q <= n - 1 and 0 <= r <= n - 1):
            return -1
        if p <= r <= q:
            return -3
        parts = self.seam(r)
        if self.lacks(p, q, self.needed()) or self.level_in(parts) < self.needed():
            return -9
        coming = []
        for piece in shown[p:q]:
            if not self.tracking or self.own(piece):
                self.pieces.pop(self.where(piece))
                comer = piece
            else:
                comer = copy.deepcopy(piece)
                comer["ins"].append(len(self.changes) + 1)
                piece["del"] = [len(self.changes) + 1]
            comer["tags"] = sorted(set(comer["tags"]) | parts)
            coming.append(comer)
        at = self.where(shown[r])
        self.pieces[at:at] = coming
        return self.end(4)

    def guard(self, p, q, others):
        shown = self.shown()
        if not 0 <= p < q <= len(shown):
            return -1
        if not 0 <= others <= 3:
            return -2
        if self.lacks(p, q, 3):
            return -9
        if len(self.parts) == 500:
            return -7
        self.parts.append({"force": True, "owner": self.author_now, "others": others, "grants": {}})
        for piece in self.pieces[self.where(shown[p]):self.where(shown[q - 1]) + 1]:
            piece["tags"] = sorted(piece["tags"] + [len(self.parts)])
        return len(self.parts)

    def in_force(self, t):
        if 1 <= t <= len(self.parts) and self.parts[t - 1]["force"]:
            return self.parts[t - 1]
        return None

    def dissolve(self, t):
        if self.in_force(t) is None:
            return -4
        if self.in_force(t)["owner"] != self.author_now:
            return -9
        self.in_force(t)["force"] = False
        had = [piece for piece in self.pieces if t in piece["tags"]]
        for piece in had:
            piece["tags"].remove(t)
        return len(had)

    def others(self, t, level):
        part = self.in_force(t)
        if part is None:
            return -4
        if not 0 <= level <= 3:
            return -2
        if part["owner"] != self.author_now:
            return -9
        before, part["others"] = part["others"], level
        return before

    def has_ground(self, part, a, seen):
        level, pass_on, giver = part["grants"][a]
        if giver == part["owner"]:
            return True
        if giver in seen or giver not in part["grants"]:
            return False
        above = part["grants"][giver]
        return above[1] == 1 and above[0] >= level and self.has_ground(part, giver, seen | {giver})

    def drop(self, part):
        without = [a for a in part["grants"] if not self.has_ground(part, a, {a})]
        for a in without:
            part["grants"].pop(a)
        return without

    def grant(self, t, a, level, pass_on):
        part = self.in_force(t)
        if part is None:
            return -4
        if not 1 <= a <= 99 or not 0 <= level <= 3 or pass_on not in (0, 1):
            return -2
        if a in (part["owner"], self.author_now):
            return -3
        grants, mine = part["grants"], part["grants"].get(self.author_now)
        owner = part["owner"] == self.author_now
        if not owner and not (mine and mine[1] == 1 and mine[0] >= level):
            return -9
        if a in grants and grants[a][2] != self.author_now and not owner:
            return -9
        grants[a] = (level, pass_on, self.author_now)
        return len([b for b in self.drop(part) if b != a])

    def revoke(self, t, a):
        part = self.in_force(t)
        if part is None:
            return -4
        if a not in part["grants"]:
            return -5
        if self.author_now not in (part["owner"], part["grants"][a][2], a):
            return -9
        part["grants"].pop(a)
        return 1 + len(self.drop(part))

    def transfer(self, t, a):
        part = self.in_force(t)
        if part is None:
            return -4
        if not 1 <= a <= 99:
            return -2
        if part["owner"] != self.author_now:
            return -9
        if a == part["owner"]:
            return -3
        part["grants"] = {b: (level, pass_on, a if giver == part["owner"] else giver)
                          for b, (level, pass_on, giver) in part["grants"].items() if b != a}
        part["owner"] = a
        self.drop(part)
        return len(part["grants"])

    def accept(self, c):
        if c < 1 or c > len(self.changes):
            return -4
        bearers = self.bearers(c)
        if [piece for piece in bearers if self.level_in(piece["tags"]) < 3]:
            return -9
        self.pieces = [piece for piece in self.pieces if c not in piece["del"]]
        for piece in self.pieces:
            if c in piece["ins"]:
                piece["ins"].remove(c)
            for k in (0, 1, 2, 3):
                while [c, k] in [entry[:2] for entry in piece["pend"]]:
                    first = [entry for entry in piece["pend"] if entry[1] == k][0]
                    piece["pend"].remove(first)
                    if first[0] == c:
                        piece["look"][k] = first[2]
        return len(bearers)

    def reject(self, c):
        if c < 1 or c > len(self.changes):
            return -4
        bearers = self.bearers(c)
        least = min([3] + [self.level_in(piece["tags"]) for piece in bearers])
        if least < 3 and not (self.changes[c - 1][0] == self.author_now and least == 2):
            return -9
        self.pieces = [piece for piece in self.pieces if c not in piece["ins"]]
        for piece in self.pieces:
            piece["del"] = [other for other in piece["del"] if other != c]
            piece["pend"] = [entry for entry in piece["pend"] if entry[0] != c]
        return len(bearers)

    def note(self, p, q):
        shown = self.shown()
        if not 0 <= p < q <= len(shown):
            return -1
        if self.lacks(p, q, 1):
            return -9
        if len(self.made_by) == 499:
            return -7
        self.made_by.append(self.author_now)
        for piece in self.pieces[self.where(shown[p]):self.where(shown[q - 1]) + 1]:
            piece["tags"] = sorted(piece["tags"] + [500 + len(self.made_by)])
        return len(self.made_by)

    def unnote(self, k):
        if k < 1 or k > len(self.made_by) or self.made_by[k - 1] is None:
            return -4
        if self.made_by[k - 1] != self.author_now:
            return -9
        self.made_by[k - 1] = None
        had = [piece for piece in self.pieces if 500 + k in piece["tags"]]
        for piece in had:
            piece["tags"].remove(500 + k)
        return len(had)

    def right(self, a, p):
        if a < 1 or a > 99:
            return -2
        if p < 0 or p > len(self.shown()) - 1:
            return -1
        tags = self.shown()[p]["tags"]
        return [self.level_in(tags, a), self.level_in(self.seam(p), a), len([t for t in tags if t <= 500])]

    def level(self, t, a):
        if self.in_force(t) is None:
            return -4
        if a < 1 or a > 99:
            return -2
        return self.level_of(t, a)

    def part(self, t):
        if t < 1 or t > len(self.parts):
            return -4
        part = self.parts[t - 1]
        told = [int(part["force"]), part["owner"], part["others"],
                len([piece for piece in self.pieces if t in piece["tags"]]),
                len([piece for piece in self.shown() if t in piece["tags"]]), len(part["grants"])]
        for a in range(1, 100):
            if a in part["grants"]:
                told += [a] + list(part["grants"][a])
        return told

    def row(self):
        told = [len(self.pieces)]
        for piece in self.pieces:
            told += [piece["sign"]] + piece["look"] + [len(piece["ins"])] + piece["ins"]
            told += [len(piece["del"])] + piece["del"] + [len(piece["pend"])]
            for entry in piece["pend"]:
                told += entry
            told += [len(piece["tags"])] + piece["tags"]
        return told

    def text(self, w):
        if w not in (1, 2):
            return -2
        pieces = self.shown() if w == 1 else [piece for piece in self.pieces if piece["ins"] == []]
        told = [len(pieces)]
        for piece in pieces:
            told += [piece["sign"]] + (self.look(piece) if w == 1 else piece["look"])
        return told

    def change(self, c):
        if c < 1 or c > len(self.changes):
            return -4
        return list(self.changes[c - 1]) + [len(self.bearers(c))]

    def notes(self):
        told = []
        for k, maker in enumerate(self.made_by, 1):
            if maker is not None:
                told += [k, maker, len([piece for piece in self.pieces if 500 + k in piece["tags"]])]
        return [len(told) // 3] + told

    def kept(self):
        return (
            self.author_now, self.time, self.tracking == 1, self.changes,
            [tuple(piece[key] for key in ("sign", "look", "ins", "del", "pend", "tags")) for piece in self.pieces],
            [(k + 1, part["force"], part["owner"], part["others"],
              [(a, held[0], held[1] == 1, held[2]) for a, held in sorted(part["grants"].items())])
             for k, part in enumerate(self.parts)],
            len(self.made_by), {k: a for k, a in enumerate(self.made_by, 1) if a is not None},
        )


def stretch(dice, n):
    """Two places, mostly near one another and mostly right."""
    p = dice.randint(-1, n) if dice.random() < 0.1 else dice.randrange(n)
    q = p + dice.randint(0 if dice.random() < 0.1 else 1, dice.choice((1, 2, 4, 9)))
    return p, q if dice.random() < 0.1 else min(q, max(n - 1, p + 1))


TELLING = ["right", "level", "part", "row", "text", "change", "notes"]

# Lines of all calls alike; of many grants; of many changes: how each begins, and how often each call stands in it.
OPENINGS = (
    [("put", [0, [65, 66, 10, 67, 68, 69, 10, 70]]), ("track", [1])],
    [("put", [0, [65, 66, 67]]), ("guard", [0, 2, 1]), ("guard", [1, 3, 0]), ("grant", [1, 2, 3, 1])],
    [("put", [0, [65, 66, 10, 67]]), ("track", [1]), ("author", [2]), ("put", [2, [68, 10, 69]])],
)
NAMES = (
    ["author"] * 8 + ["track"] * 3 + ["clock"] + ["put"] * 5 + ["cut"] * 4 + ["paint"] * 6 + ["move"] * 6
    + ["guard"] * 3 + ["dissolve", "others"] + ["grant"] * 5 + ["revoke"] + ["transfer"] * 2 + ["accept"] * 4
    + ["reject"] * 4 + ["note"] * 2 + ["unnote"] + ["right"] + TELLING,
    ["author"] * 30 + ["track"] + ["put"] * 2 + ["cut"] + ["guard"] + ["dissolve", "others"] + ["grant"] * 50
    + ["revoke"] * 4 + ["transfer"] * 4 + ["note", "unnote"] + ["right"] * 5 + ["level"] * 5 + TELLING,
    ["author"] * 12 + ["track"] * 2 + ["clock"] + ["put"] * 4 + ["cut"] * 3 + ["paint"] * 24 + ["move"] * 12
    + ["guard", "dissolve", "note", "unnote"] + ["accept"] * 5 + ["reject"] * 4 + TELLING,
)


def one_of(dice, most):
    """A number from 1 to the most there is, sometimes one beside."""
    return dice.randint(0, most + 1) if dice.random() < 0.1 or not most else dice.randint(1, most)


def any_call(dice, plain, names, authors):
    """A call, mostly one that is not refused for its numbers alone."""
    n = len(plain.shown())
    name = dice.choice(names)
    p, q = stretch(dice, n)
    t = one_of(dice, len(plain.parts))
    c = one_of(dice, len(plain.changes))
    borne = [other for piece in plain.pieces
             for other in piece["ins"] + piece["del"] + [entry[0] for entry in piece["pend"]]]
    if borne and dice.random() < 0.7:
        c = dice.choice(sorted(set(borne)))
    a = dice.choice((0, 100, 99)) if dice.random() < 0.05 else dice.randint(1, authors)
    level = dice.randint(-1, 4) if dice.random() < 0.1 else dice.choice((0, 1, 2, 2, 3, 3))
    given = {
        "author": [a], "clock": [dice.randint(-1, 30)], "track": [dice.choice((0, 1, 1, 1))],
        "put": [p, [dice.choice((10, 32, 65, 66, 126)) for k in range(dice.randint(1, 4))]],
        "cut": [p, q], "paint": [p, q, dice.choice((0, 0, 1, 1, 2, 3)), dice.randint(0, 3)],
        "move": [p, q, dice.randint(0, n - 1)], "guard": [p, q, level], "dissolve": [t],
        "others": [t, level], "grant": [t, a, level, dice.choice((0, 1, 1, 1))], "revoke": [t, a],
        "transfer": [t, a], "accept": [c], "reject": [c], "note": [p, q],
        "unnote": [one_of(dice, len(plain.made_by))], "right": [a, p], "level": [t, a], "part": [t], "row": [],
        "text": [dice.choice((0, 1, 1, 1, 2, 2, 2, 3))], "change": [c], "notes": [],
    }[name]
    if given and dice.random() < 0.03:
        k = dice.randrange(len(given))
        bad = dice.choice((FAR, -FAR, -1, 127, 500, 501))
        given[k] = [65, bad] if isinstance(given[k], list) else bad
        if name == "put" and dice.random() < 0.3:
            given[1] = []
    return name, given


REFUSALS = {
    "author": (-2,), "clock": (-2, -3), "track": (-2,), "put": (-1, -2, -9), "cut": (-1, -9), "paint": (-1, -2, -9),
    "move": (-1, -3, -9), "guard": (-1, -2, -9), "dissolve": (-4, -9), "others": (-4, -2, -9),
    "grant": (-4, -2, -3, -9), "revoke": (-4, -5, -9), "transfer": (-4, -2, -9, -3), "accept": (-4, -9),
    "reject": (-4, -9), "note": (-1, -9), "unnote": (-4, -9), "right": (-2, -1), "level": (-4, -2), "part": (-4,),
    "row": (), "text": (-2,), "change": (-4,), "notes": (),
}


class SecondTelling(unittest.TestCase):
    def one_line(self, seed, length, authors):
        """Do a line on both; hold each answer and all that is kept against one another."""
        dice = random.Random(seed)
        desk, plain = Desk(), Plain()
        found = set()
        for step in range(length):
            if step < len(OPENINGS[seed % 3]):
                name, given = OPENINGS[seed % 3][step]
            else:
                name, given = any_call(dice, plain, NAMES[seed % 3], authors)
            before = desk.kept() if name in TELLING else None
            answer = getattr(plain, name)(*copy.deepcopy(given))
            answer = answer if isinstance(answer, list) else [answer]
            if answer[0] < 0:
                before = desk.kept()
            self.assertEqual(desk.do(name, *given), answer, (seed, step, name, given))
            kept = desk.kept()
            self.assertEqual(kept, plain.kept(), (seed, step, name, given))
            if before is not None:
                self.assertEqual(kept, before, (seed, step, name, given))
            found.add((name, min(answer[0], 1)))
        self.assertEqual(answers(desk.calls), desk.told)
        return found

    def test_many_lines(self):
        found = set()
        for seed in range(450):
            found |= self.one_line(seed, 80, 2 + seed % 5)
        for name, refusals in REFUSALS.items():
            given = {answer for other, answer in found if other == name}
            self.assertEqual({answer for answer in given if answer < 0}, set(refusals), name)
            self.assertTrue(given - set(refusals), name)
        for name in ("accept", "reject", "unnote", "dissolve", "grant", "put", "cut", "paint", "move", "transfer"):
            self.assertIn((name, 0), found)
            self.assertIn((name, 1), found)

    def test_long_lines(self):
        """1000 calls, the most that a line has."""
        for seed in range(1000, 1006):
            found = self.one_line(seed, 1000, 4)
            self.assertLessEqual(set(NAMES[seed % 3]), {name for name, answer in found})


if __name__ == "__main__":
    unittest.main()
