"""A second telling of the document, that keeps flat rows and derives all else from them."""


class Model:
    def __init__(self):
        self.people = []  # [id, family, serial]
        self.families = []  # [number, parent, serial, next serial]
        self.waits = []  # [id, kind, place, number]
        self.next_number = 1

    def row(self, rows, key):
        found_rows = [row for row in rows if row[0] == key]
        return found_rows[0] if found_rows else None

    def home(self, x):
        return self.row(self.families, self.row(self.people, x)[1])

    def blocked(self, x):
        if self.row(self.people, x) is None:
            return [-10]
        if self.row(self.waits, x) is not None:
            return [-7]
        return None

    def has_children(self, f):
        return any(row[1] == f for row in self.people) or any(row[1] == f for row in self.families)

    def sweep(self):
        bare = [row for row in self.families if not self.has_children(row[0])]
        while bare:
            self.families = [row for row in self.families if row not in bare]
            bare = [row for row in self.families if not self.has_children(row[0])]

    def remove(self, x):
        self.people = [row for row in self.people if row[0] != x]

    def send(self, ids):
        self.waits = [row for row in self.waits if row[0] not in ids]
        return [len(ids)] + ids

    def mustered(self):
        for row in self.families:
            ids = [one[0] for one in self.people if one[1] == row[0]]
            if ids and not any(other[1] == row[0] for other in self.families):
                waits = [wait for wait in self.waits if wait[0] in ids and wait[1] == 4]
                if len(waits) == len(ids) and len({wait[2] for wait in waits}) == 1:
                    return [wait[0] for wait in waits]
        return []

    def kin(self, x, kind, p):
        home = self.home(x)
        return [wait for wait in self.waits if wait[1] == kind and wait[2] == p and self.home(wait[0]) is home]

    def born(self, x):
        if self.row(self.people, x):
            return [-3]
        self.families.append([self.next_number, 0, 0, 1])
        self.people.append([x, self.next_number, 0])
        self.next_number += 1
        return [0, 0]

    def split(self, x, how_many, *ids):
        if len(set(ids)) != how_many or how_many == 0:
            return [-2]
        if self.blocked(x):
            return self.blocked(x)
        if any(self.row(self.people, y) for y in ids):
            return [-3]
        for y in ids:
            self.people.append([y, self.home(x)[0], self.home(x)[3]])
            self.home(x)[3] += 1
        return [0, 0]

    def depth(self, f):
        return 0 if f == 0 else 1 + self.depth(self.row(self.families, f)[1])

    def found(self, x):
        if self.blocked(x):
            return self.blocked(x)
        if self.depth(self.home(x)[0]) == 40:
            return [-5]
        row = self.row(self.people, x)
        self.families.append([self.next_number, row[1], row[2], 1])
        row[1:] = [self.next_number, 0]
        self.next_number += 1
        return [0, 0]

    def close(self, x):
        if self.blocked(x):
            return self.blocked(x)
        home = self.home(x)
        others = [row for row in self.people if row[1] == home[0] and row[0] != x]
        others += [row for row in self.families if row[1] == home[0]]
        if home[1] == 0 or others:
            return [-8]
        self.row(self.people, x)[1:] = home[1:3]
        self.sweep()
        return [0, 0]

    def adopt(self, x, f):
        if self.blocked(x):
            return self.blocked(x)
        goal = self.row(self.families, f)
        if goal is None:
            return [-6]
        if self.home(x) is goal:
            return [-4]
        self.row(self.people, x)[1:] = [f, goal[3]]
        goal[3] += 1
        self.sweep()
        return [0] + self.send(self.mustered())

    def leave(self, x):
        if self.blocked(x):
            return self.blocked(x)
        self.remove(x)
        self.sweep()
        return [0] + self.send(self.mustered())

    def assemble(self, x, p, n):
        if self.blocked(x):
            return self.blocked(x)
        kin = self.kin(x, 1, p)
        if kin:
            self.remove(x)
            kin[0][3] -= 1
            return [2] + self.send([kin[0][0]] if kin[0][3] == 0 else [])
        if n == 1:
            return [0, 1, x]
        self.waits.append([x, 1, p, n - 1])
        return [1]

    def gather(self, x, p, n):
        if self.blocked(x):
            return self.blocked(x)
        kin = self.kin(x, 2, p)
        need = kin[0][3] if kin else n
        if len(kin) + 1 == need:
            return [0] + self.send([wait[0] for wait in kin] + [x])
        self.waits.append([x, 2, p, need])
        return [1]

    def match(self, x, p, q):
        if self.blocked(x):
            return self.blocked(x)
        kin = [wait for wait in self.kin(x, 3, q) if wait[3] == p]
        if kin:
            return [0] + self.send([kin[0][0], x])
        self.waits.append([x, 3, p, q])
        return [1]

    def muster(self, x, p):
        if self.blocked(x):
            return self.blocked(x)
        self.waits.append([x, 4, p, 0])
        ids = self.mustered()
        return [0] + self.send(ids) if ids else [1]

    def recall(self, x):
        if self.row(self.people, x) is None:
            return [-10]
        if self.row(self.waits, x) is None:
            return [-8]
        self.send([x])
        return [0, 0]

    def person(self, x):
        row = self.row(self.people, x)
        if row is None:
            return [-10]
        wait = self.row(self.waits, x)
        return row[1:] + (wait[1:] if wait else [0, 0, 0])

    def is_held(self, row, f):
        number = row[1]
        while number not in (0, f):
            number = self.row(self.families, number)[1]
        return number == f

    def family(self, f):
        row = self.row(self.families, f)
        if row is None:
            return [-6]
        people = [one for one in self.people if one[1] == f]
        within = [one for one in self.families if one[1] == f]
        held = [one for one in self.people if self.is_held(one, f)]
        return row[1:] + [len(people), len(within), len(held)]

    def children(self, f):
        people = [[row[2], 0, row[0]] for row in self.people if row[1] == f]
        return sorted(people + [[row[2], 1, row[0]] for row in self.families if row[1] == f])

    def members(self, f):
        if self.row(self.families, f) is None:
            return [-6]
        children = self.children(f)
        return [len(children)] + sum(children, [])

    def outwards(self, f):
        return [] if f == 0 else [f] + self.outwards(self.row(self.families, f)[1])

    def path(self, x):
        if self.row(self.people, x) is None:
            return [-10]
        numbers = self.outwards(self.home(x)[0])
        return [len(numbers)] + numbers

    def kin_of(self, x, y):
        rows = [self.row(self.people, x), self.row(self.people, y)]
        if None in rows:
            return [-10]
        both = [row[0] for row in self.families if all(self.is_held(one, row[0]) for one in rows)]
        return [max(both, key=self.depth, default=0)]

    def ids(self, f):
        return sum([[key] if mark == 0 else self.ids(key) for serial, mark, key in self.children(f)], [])

    def line(self, f):
        if self.row(self.families, f) is None:
            return [-6]
        return [len(self.ids(f))] + self.ids(f)

    def is_alike(self, f, g):
        """Tells the children off in pairs, as the document says it."""
        left = self.children(g)
        for child in self.children(f):
            fits = [other for other in left if other[1] == child[1]
                    and (child[1] == 0 or self.is_alike(child[2], other[2]))]
            if not fits:
                return False
            left.remove(fits[0])
        return not left

    def alike(self, f, g):
        if self.row(self.families, f) is None or self.row(self.families, g) is None:
            return [-6]
        return [int(self.is_alike(f, g))]

    def waiting(self):
        return [len(self.waits)] + sum(self.waits, [])

    def at(self, p):
        rows = [[x, kind, number] for x, kind, place, number in self.waits if place == p]
        return [len(rows)] + sum(rows, [])

    def root_numbers(self):
        return sorted(row[0] for row in self.families if row[1] == 0)

    def roots(self):
        return [len(self.root_numbers())] + self.root_numbers()

    def family_told(self, f):
        numbers = [f, self.row(self.families, f)[3], len(self.children(f))]
        for serial, mark, key in self.children(f):
            numbers += [serial, mark] + ([key] if mark == 0 else self.family_told(key))
        return numbers

    def told(self):
        forest = sum([self.family_told(f) for f in self.root_numbers()], [])
        waits = sum(self.waits, [])
        return [self.next_number, len(forest)] + forest + [len(waits)] + waits

    def load(self, n, *rows):
        length = rows[0]
        fresh = Model()
        fresh.next_number = n
        try:
            fresh.take_forest(list(rows[1:1 + length]))
            fresh.take_waits(list(rows[2 + length:]))
        except (AssertionError, IndexError):
            return [-2]
        self.clear()
        self.__dict__.update(fresh.__dict__)
        return [0, 0]

    def take_forest(self, numbers):
        while numbers:
            self.take_family(numbers, 0, 0)
        names = [row[0] for row in self.families]
        ids = [row[0] for row in self.people]
        in_order = [row[0] for row in self.families if row[1] == 0]
        assert in_order == sorted(in_order)
        assert len(set(names)) == len(names) and len(set(ids)) == len(ids)
        assert all(row[1] < row[0] < self.next_number for row in self.families)
        assert all(1 <= x <= 10 ** 9 for x in ids)
        assert all(self.depth(f) <= 40 for f in names)

    def take_family(self, numbers, parent, serial):
        number, next_serial, how_many = numbers.pop(0), numbers.pop(0), numbers.pop(0)
        self.families.append([number, parent, serial, next_serial])
        assert how_many > 0
        serials = []
        while len(serials) < how_many:
            serials.append(numbers.pop(0))
            mark = numbers.pop(0)
            assert mark in (0, 1)
            if mark == 1:
                self.take_family(numbers, number, serials[-1])
            else:
                self.people.append([numbers.pop(0), number, serials[-1]])
        assert serials == sorted(set(serials)) and 0 <= serials[0] and serials[-1] < next_serial

    def take_waits(self, numbers):
        assert len(numbers) % 4 == 0
        self.waits = [numbers[spot:spot + 4] for spot in range(0, len(numbers), 4)]
        ids = [wait[0] for wait in self.waits]
        assert len(set(ids)) == len(ids) and all(self.row(self.people, x) for x in ids)
        groups = {}
        for x, kind, place, number in self.waits:
            assert 1 <= kind <= 4 and 0 <= place <= 999
            groups.setdefault((self.home(x)[0], kind, place), []).append(number)
        for (f, kind, place), found_numbers in groups.items():
            if kind == 1:
                assert len(found_numbers) == 1 and 1 <= found_numbers[0] <= 999
            if kind == 2:
                assert len(set(found_numbers)) == 1 and 2 <= found_numbers[0] <= 1000
                assert len(found_numbers) < found_numbers[0]
            if kind == 3:
                for number in found_numbers:
                    assert 0 <= number <= 999
                    assert number == place or place not in groups.get((f, 3, number), [])
                assert found_numbers.count(place) < 2
            if kind == 4:
                assert set(found_numbers) == {0}
        assert self.mustered() == []

    def clear(self):
        self.__init__()
        return [0, 0]

    def counts(self):
        return [len(self.people), len(self.families), self.next_number, len(self.waits),
                max([self.depth(row[0]) for row in self.families] + [0])]

    def answer(self, call):
        names = ("born", "split", "found", "close", "adopt", "leave", "assemble", "gather", "match", "muster",
                 "recall", "person", "family", "members", "path", "kin_of", "line", "alike", "waiting", "at", "roots",
                 "told", "load", "clear", "counts")
        return getattr(self, names[call[0]])(*call[1:])
