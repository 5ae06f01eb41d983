"""Long mixed runs against a second telling of the document that keeps flat rows and derives all else from them."""

import random
import unittest

from tests.helping import (
    Calls, adopt, assemble, born, close, family, found, gather, leave, match, muster, person, recall, run, split,
)

PEOPLE = range(1, 13)
PLACES = (0, 1)
COUNTS = (1, 2, 3)


class Model:
    def __init__(self):
        self.people = []  # [id, family, serial]
        self.families = []  # [number, parent, serial, next serial]
        self.waits = []  # [id, kind, place, number]
        self.next_number = 1

    def row(self, rows, key):
        found_rows = [row for row in rows if row[0] == key]
        return found_rows[0] if found_rows else None

    def home(self, x):
        return self.row(self.families, self.row(self.people, x)[1])

    def blocked(self, x):
        if self.row(self.people, x) is None:
            return [-10]
        if self.row(self.waits, x) is not None:
            return [-7]
        return None

    def has_children(self, f):
        return any(row[1] == f for row in self.people) or any(row[1] == f for row in self.families)

    def sweep(self):
        bare = [row for row in self.families if not self.has_children(row[0])]
        while bare:
            self.families = [row for row in self.families if row not in bare]
            bare = [row for row in self.families if not self.has_children(row[0])]

    def remove(self, x):
        self.people = [row for row in self.people if row[0] != x]

    def send(self, ids):
        self.waits = [row for row in self.waits if row[0] not in ids]
        return [len(ids)] + ids

    def mustered(self):
        for row in self.families:
            ids = [one[0] for one in self.people if one[1] == row[0]]
            if ids and not any(other[1] == row[0] for other in self.families):
                waits = [wait for wait in self.waits if wait[0] in ids and wait[1] == 4]
                if len(waits) == len(ids) and len({wait[2] for wait in waits}) == 1:
                    return [wait[0] for wait in waits]
        return []

    def kin(self, x, kind, p):
        home = self.home(x)
        return [wait for wait in self.waits if wait[1] == kind and wait[2] == p and self.home(wait[0]) is home]

    def born(self, x):
        if self.row(self.people, x):
            return [-3]
        self.families.append([self.next_number, 0, 0, 1])
        self.people.append([x, self.next_number, 0])
        self.next_number += 1
        return [0, 0]

    def split(self, x, how_many, *ids):
        if len(set(ids)) != how_many or how_many == 0:
            return [-2]
        if self.blocked(x):
            return self.blocked(x)
        if any(self.row(self.people, y) for y in ids):
            return [-3]
        for y in ids:
            self.people.append([y, self.home(x)[0], self.home(x)[3]])
            self.home(x)[3] += 1
        return [0, 0]

    def depth(self, f):
        return 0 if f == 0 else 1 + self.depth(self.row(self.families, f)[1])

    def found(self, x):
        if self.blocked(x):
            return self.blocked(x)
        if self.depth(self.home(x)[0]) == 40:
            return [-5]
        row = self.row(self.people, x)
        self.families.append([self.next_number, row[1], row[2], 1])
        row[1:] = [self.next_number, 0]
        self.next_number += 1
        return [0, 0]

    def close(self, x):
        if self.blocked(x):
            return self.blocked(x)
        home = self.home(x)
        others = [row for row in self.people if row[1] == home[0] and row[0] != x]
        others += [row for row in self.families if row[1] == home[0]]
        if home[1] == 0 or others:
            return [-8]
        self.row(self.people, x)[1:] = home[1:3]
        self.sweep()
        return [0, 0]

    def adopt(self, x, f):
        if self.blocked(x):
            return self.blocked(x)
        goal = self.row(self.families, f)
        if goal is None:
            return [-6]
        if self.home(x) is goal:
            return [-4]
        self.row(self.people, x)[1:] = [f, goal[3]]
        goal[3] += 1
        self.sweep()
        return [0] + self.send(self.mustered())

    def leave(self, x):
        if self.blocked(x):
            return self.blocked(x)
        self.remove(x)
        self.sweep()
        return [0] + self.send(self.mustered())

    def assemble(self, x, p, n):
        if self.blocked(x):
            return self.blocked(x)
        kin = self.kin(x, 1, p)
        if kin:
            self.remove(x)
            kin[0][3] -= 1
            return [2] + self.send([kin[0][0]] if kin[0][3] == 0 else [])
        if n == 1:
            return [0, 1, x]
        self.waits.append([x, 1, p, n - 1])
        return [1]

    def gather(self, x, p, n):
        if self.blocked(x):
            return self.blocked(x)
        kin = self.kin(x, 2, p)
        need = kin[0][3] if kin else n
        if len(kin) + 1 == need:
            return [0] + self.send([wait[0] for wait in kin] + [x])
        self.waits.append([x, 2, p, need])
        return [1]

    def match(self, x, p, q):
        if self.blocked(x):
            return self.blocked(x)
        kin = [wait for wait in self.kin(x, 3, q) if wait[3] == p]
        if kin:
            return [0] + self.send([kin[0][0], x])
        self.waits.append([x, 3, p, q])
        return [1]

    def muster(self, x, p):
        if self.blocked(x):
            return self.blocked(x)
        self.waits.append([x, 4, p, 0])
        ids = self.mustered()
        return [0] + self.send(ids) if ids else [1]

    def recall(self, x):
        if self.row(self.people, x) is None:
            return [-10]
        if self.row(self.waits, x) is None:
            return [-8]
        self.send([x])
        return [0, 0]

    def person(self, x):
        row = self.row(self.people, x)
        if row is None:
            return [-10]
        wait = self.row(self.waits, x)
        return row[1:] + (wait[1:] if wait else [0, 0, 0])

    def is_held(self, row, f):
        number = row[1]
        while number not in (0, f):
            number = self.row(self.families, number)[1]
        return number == f

    def family(self, f):
        row = self.row(self.families, f)
        if row is None:
            return [-6]
        people = [one for one in self.people if one[1] == f]
        within = [one for one in self.families if one[1] == f]
        held = [one for one in self.people if self.is_held(one, f)]
        return row[1:] + [len(people), len(within), len(held)]

    def answer(self, call):
        names = ("born", "split", "found", "close", "adopt", "leave", "assemble", "gather", "match", "muster",
                 "recall", "person", "family")
        return getattr(self, names[call[0]])(*call[1:])


def one_call(chance, deep):
    x = chance.choice(PEOPLE)
    p = chance.choice(PLACES)
    n = chance.choice(COUNTS)
    f = chance.randint(1, 12)
    moves = [born(x), split(x, *chance.sample(PEOPLE, chance.randint(0, 3))), found(x), found(x), close(x),
             adopt(x, f), adopt(x, f), leave(x)]
    meetings = [assemble(x, p, n), gather(x, p, n), match(x, p, chance.choice(PLACES)), muster(x, p), muster(x, p),
                recall(x)]
    questions = [person(x), family(f)]
    return chance.choice(moves * (3 if deep else 1) + meetings + questions)


class AgainstModel(Calls):
    def check_run(self, seed, names):
        chance = random.Random(seed)
        calls = [one_call(chance, seed % 2 == 0) for turn in range(110)]
        if names is not None:
            calls = [call for call in calls if call[0] in names]
        calls = [born(1), split(1, 2, 3, 4, 5, 6)] + calls
        calls += [person(x) for x in PEOPLE] + [family(f) for f in range(1, 13)]
        model = Model()
        self.assertEqual(run(*calls), [model.answer(call) for call in calls], (seed, calls))

    def test_all_calls_mixed(self):
        for seed in range(600):
            self.check_run(seed, None)

    def test_musters_and_moves(self):
        for seed in range(600):
            self.check_run(seed, (1, 2, 3, 4, 5, 9, 10))

    def test_meetings_in_few_families(self):
        for seed in range(600):
            self.check_run(seed, (1, 2, 6, 7, 8, 10))


if __name__ == "__main__":
    unittest.main()
