"""All calls against a second telling of the document, as plain as can be, over many lines."""

import copy
import random
import unittest

from helper import FAR, Desk


class Plain:
    """The document's words by the letter: one row of dicts, walked anew for each question."""

    def __init__(self):
        self.author_now, self.time, self.tracking = 1, 0, 0
        self.row = [{"sign": 10, "look": [0, 0, 0, 0], "ins": [], "del": [], "pend": [], "tags": []}]
        self.changes, self.parts = [], []

    def shown(self):
        return [piece for piece in self.row if not piece["del"]]

    def where(self, piece):
        return [k for k, other in enumerate(self.row) if other is piece][0]

    def look(self, piece):
        look = list(piece["look"])
        for change, k, v in piece["pend"]:
            look[k] = v
        return look

    def own(self, piece):
        return bool(piece["ins"]) and self.changes[piece["ins"][-1] - 1][0] == self.author_now

    def level(self, t):
        part = self.parts[t - 1]
        if part["owner"] == self.author_now:
            return 3
        if self.author_now in part["grants"]:
            return max(part["others"], part["grants"][self.author_now][0])
        return part["others"]

    def level_in(self, parts):
        return min([3] + [self.level(t) for t in parts if t <= 500])

    def seam(self, p):
        shown = self.shown()
        here = shown[p]
        parts = set()
        if p > 0:
            parts |= set(here["tags"]) & set(shown[p - 1]["tags"])
        if self.where(here) > 0:
            parts |= set(here["tags"]) & set(self.row[self.where(here) - 1]["tags"])
        return {t for t in parts if t <= 500}

    def lacks(self, p, q, level):
        return any(self.level_in(piece["tags"]) < level for piece in self.shown()[p:q])

    def needed(self):
        return 2 if self.tracking else 3

    def end(self, kind):
        m = len(self.changes) + 1
        for piece in self.row:
            if m in piece["ins"] or m in piece["del"] or m in [entry[0] for entry in piece["pend"]]:
                self.changes.append((self.author_now, self.time, kind))
                return m
        return 0

    def author(self, a):
        if a < 1 or a > 99:
            return -2
        self.author_now = a
        return 0

    def clock(self, t):
        if t < 0:
            return -2
        if t < self.time:
            return -3
        self.time = t
        return 0

    def track(self, on):
        if on not in (0, 1):
            return -2
        self.tracking = on
        return 0

    def put(self, p, signs):
        shown = self.shown()
        n = len(shown)
        if p < 0 or p > n - 1:
            return -1
        if not signs or [sign for sign in signs if sign != 10 and (sign < 32 or sign > 126)]:
            return -2
        if self.level_in(self.seam(p)) < self.needed():
            return -9
        tags = self.seam(p)
        if p > 0:
            tags |= set(shown[p - 1]["tags"]) & set(shown[p]["tags"])
        new = []
        for sign in signs:
            look = [0, 0, 0, 0]
            if sign == 10:
                look = self.look([piece for piece in shown[p:] if piece["sign"] == 10][0])
            elif p > 0 and shown[p - 1]["sign"] != 10:
                look = self.look(shown[p - 1])
            new.append({"sign": sign, "look": look, "ins": [len(self.changes) + 1] if self.tracking else [],
                        "del": [], "pend": [], "tags": sorted(tags)})
        at = self.where(shown[p])
        self.row[at:at] = new
        return self.end(1)

    def cut(self, p, q):
        shown = self.shown()
        if not 0 <= p < q <= len(shown) - 1:
            return -1
        if self.lacks(p, q, self.needed()):
            return -9
        for piece in shown[p:q]:
            if not self.tracking or self.own(piece):
                self.row.pop(self.where(piece))
            else:
                piece["del"] = [len(self.changes) + 1]
        return self.end(2)

    def paint(self, p, q, k, v):
        shown = self.shown()
        if not 0 <= p < q <= len(shown):
            return -1
        if not 0 <= k <= 3 or not 0 <= v <= 99:
            return -2
        if self.lacks(p, q, self.needed()):
            return -9
        for piece in shown[p:q]:
            if not self.tracking or self.own(piece):
                piece["pend"] = [entry for entry in piece["pend"] if entry[1] != k]
                piece["look"][k] = v
            elif self.look(piece)[k] != v:
                piece["pend"].append([len(self.changes) + 1, k, v])
        return self.end(3)

    def move(self, p, q, r):
        shown = self.shown()
        n = len(shown)
        if not (0 <= p < q <= n - 1 and 0 <= r <= n - 1):
            return -1
        if p <= r <= q:
            return -3
        parts = self.seam(r)
        if self.lacks(p, q, self.needed()) or self.level_in(parts) < self.needed():
            return -9
        coming = []
        for piece in shown[p:q]:
            if not self.tracking or self.own(piece):
                self.row.pop(self.where(piece))
                comer = piece
            else:
                comer = copy.deepcopy(piece)
                comer["ins"].append(len(self.changes) + 1)
                piece["del"] = [len(self.changes) + 1]
            comer["tags"] = sorted(set(comer["tags"]) | parts)
            coming.append(comer)
        at = self.where(shown[r])
        self.row[at:at] = coming
        return self.end(4)

    def guard(self, p, q, others):
        shown = self.shown()
        if not 0 <= p < q <= len(shown):
            return -1
        if not 0 <= others <= 3:
            return -2
        if self.lacks(p, q, 3):
            return -9
        if len(self.parts) == 500:
            return -7
        self.parts.append({"force": True, "owner": self.author_now, "others": others, "grants": {}})
        for piece in self.row[self.where(shown[p]):self.where(shown[q - 1]) + 1]:
            piece["tags"] = sorted(piece["tags"] + [len(self.parts)])
        return len(self.parts)

    def part(self, t):
        if 1 <= t <= len(self.parts) and self.parts[t - 1]["force"]:
            return self.parts[t - 1]
        return None

    def dissolve(self, t):
        if self.part(t) is None:
            return -4
        if self.part(t)["owner"] != self.author_now:
            return -9
        self.part(t)["force"] = False
        had = [piece for piece in self.row if t in piece["tags"]]
        for piece in had:
            piece["tags"].remove(t)
        return len(had)

    def others(self, t, level):
        part = self.part(t)
        if part is None:
            return -4
        if not 0 <= level <= 3:
            return -2
        if part["owner"] != self.author_now:
            return -9
        before, part["others"] = part["others"], level
        return before

    def has_ground(self, part, a, seen):
        level, pass_on, giver = part["grants"][a]
        if giver == part["owner"]:
            return True
        if giver in seen or giver not in part["grants"]:
            return False
        above = part["grants"][giver]
        return above[1] == 1 and above[0] >= level and self.has_ground(part, giver, seen | {giver})

    def drop(self, part):
        without = [a for a in part["grants"] if not self.has_ground(part, a, {a})]
        for a in without:
            part["grants"].pop(a)
        return without

    def grant(self, t, a, level, pass_on):
        part = self.part(t)
        if part is None:
            return -4
        if not 1 <= a <= 99 or not 0 <= level <= 3 or pass_on not in (0, 1):
            return -2
        if a in (part["owner"], self.author_now):
            return -3
        grants, mine = part["grants"], part["grants"].get(self.author_now)
        owner = part["owner"] == self.author_now
        if not owner and not (mine and mine[1] == 1 and mine[0] >= level):
            return -9
        if a in grants and grants[a][2] != self.author_now and not owner:
            return -9
        grants[a] = (level, pass_on, self.author_now)
        return len([b for b in self.drop(part) if b != a])

    def revoke(self, t, a):
        part = self.part(t)
        if part is None:
            return -4
        if a not in part["grants"]:
            return -5
        if self.author_now not in (part["owner"], part["grants"][a][2], a):
            return -9
        part["grants"].pop(a)
        return 1 + len(self.drop(part))

    def notes(self):
        return 0

    def kept(self):
        return (
            self.author_now, self.time, self.tracking == 1, self.changes,
            [tuple(piece[key] for key in ("sign", "look", "ins", "del", "pend", "tags")) for piece in self.row],
            [(k + 1, part["force"], part["owner"], part["others"],
              [(a, held[0], held[1] == 1, held[2]) for a, held in sorted(part["grants"].items())])
             for k, part in enumerate(self.parts)],
            {},
        )


def stretch(dice, n):
    """Two places, mostly near one another and mostly right."""
    p = dice.randint(-1, n) if dice.random() < 0.1 else dice.randrange(n)
    return p, p + dice.randint(0 if dice.random() < 0.1 else 1, dice.choice((1, 2, 4, 9)))


def any_call(dice, n, parts, authors):
    """A call, mostly one that is not refused for its numbers alone."""
    name = dice.choice(
        ["author"] * 6 + ["track"] * 2 + ["clock"] + ["put"] * 5 + ["cut"] * 4 + ["paint"] * 4 + ["move"] * 5
        + ["guard"] * 3 + ["dissolve", "others", "notes"] + ["grant"] * 5 + ["revoke"])
    p, q = stretch(dice, n)
    t = dice.randint(0, parts + 1) if dice.random() < 0.2 or not parts else dice.randint(1, parts)
    a = dice.choice((0, 100, 99)) if dice.random() < 0.05 else dice.randint(1, authors)
    level = dice.randint(-1, 4) if dice.random() < 0.1 else dice.randint(0, 3)
    given = {
        "author": [a], "clock": [dice.randint(-1, 30)], "track": [dice.randint(0, 1)],
        "put": [p, [dice.choice((10, 32, 65, 66, 126)) for k in range(dice.randint(1, 4))]],
        "cut": [p, q], "paint": [p, q, dice.randint(0, 3), dice.randint(0, 2)],
        "move": [p, q, dice.randint(0, n - 1)], "guard": [p, q, level], "dissolve": [t],
        "others": [t, level], "grant": [t, a, level, dice.choice((0, 1, 1, 1))], "revoke": [t, a], "notes": [],
    }[name]
    if given and dice.random() < 0.03:
        k = dice.randrange(len(given))
        bad = dice.choice((FAR, -FAR, -1, 127, 500, 501))
        given[k] = [65, bad] if isinstance(given[k], list) else bad
        if name == "put" and dice.random() < 0.3:
            given[1] = []
    return name, given


class SecondTelling(unittest.TestCase):
    def one_line(self, seed, length, authors):
        """Do a line on both; hold each answer and all that is kept against one another."""
        dice = random.Random(seed)
        desk, plain = Desk(), Plain()
        found = []
        for step in range(length):
            name, given = any_call(dice, len(plain.shown()), len(plain.parts), authors)
            before = desk.kept()
            answer = getattr(plain, name)(*copy.deepcopy(given))
            self.assertEqual(desk.do(name, *given), [answer], (seed, step, name, given))
            self.assertEqual(desk.kept(), plain.kept(), (seed, step, name, given))
            if answer < 0:
                self.assertEqual(desk.kept(), before, (seed, step, name, given))
            found.append((name, min(answer, 1)))
        return found

    def test_many_lines(self):
        found = set()
        for seed in range(250):
            found |= set(self.one_line(seed, 60, 2 + seed % 4))
        for name, refusals in (
                ("author", (-2,)), ("clock", (-2, -3)), ("put", (-1, -2, -9)), ("cut", (-1, -9)),
                ("paint", (-1, -2, -9)), ("move", (-1, -3, -9)), ("guard", (-1, -2, -9)), ("dissolve", (-4, -9)),
                ("others", (-4, -2, -9)), ("grant", (-4, -2, -3, -9)), ("revoke", (-4, -5, -9))):
            for answer in refusals + (0,):
                if (name, answer) not in (("guard", 0), ("revoke", 0)):
                    self.assertIn((name, answer), found)
        for name in ("put", "cut", "paint", "move", "guard", "dissolve", "others", "grant", "revoke"):
            self.assertIn((name, 1), found)

    def test_long_lines(self):
        for seed in range(1000, 1006):
            self.one_line(seed, 400, 3)


if __name__ == "__main__":
    unittest.main()
