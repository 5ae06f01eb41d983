"""Long mixed runs, and loads of what's nearly right, against the second telling of the document."""

import random
import unittest

from tests.helping import (
    HUGE, Calls, adopt, alike, assemble, at, born, clear, close, counts, family, found, gather, kin, leave, line, load,
    load_of, match, members, muster, path, person, recall, roots, run, split, told, waiting,
)
from tests.model import Model

PEOPLE = range(1, 13)
PLACES = (0, 1)
COUNTS = (1, 2, 3)


def one_call(chance, deep):
    x = chance.choice(PEOPLE)
    p = chance.choice(PLACES)
    n = chance.choice(COUNTS)
    f = chance.randint(1, 12)
    moves = [born(x), split(x, *chance.sample(PEOPLE, chance.randint(0, 3))), found(x), found(x), close(x),
             adopt(x, f), adopt(x, f), leave(x)]
    meetings = [assemble(x, p, n), gather(x, p, n), match(x, p, chance.choice(PLACES)), muster(x, p), muster(x, p),
                recall(x)]
    questions = [person(x), family(f), members(f), path(x), kin(x, chance.choice(PEOPLE)), line(f),
                 alike(f, chance.randint(1, 12)), waiting(), at(p), roots(), told(), counts()]
    return chance.choice(moves * (6 if deep else 2) + meetings * 2 + questions)


def spoil(chance, numbers):
    """One number is another, is missing, comes twice, or has changed places."""
    numbers = list(numbers)
    spot = chance.randrange(len(numbers) + 1)
    if spot == len(numbers):
        return numbers + [chance.choice((0, 1, 5))]
    other = chance.randrange(len(numbers))
    way = chance.randrange(8)
    if way == 0:
        numbers.pop(spot)
    elif way == 1:
        numbers.insert(spot, chance.choice((0, 1, numbers[other])))
    elif way == 2:
        numbers[spot], numbers[other] = numbers[other], numbers[spot]
    elif way == 3:
        numbers[spot] = numbers[other]
    elif way == 4:
        numbers[spot] = chance.choice((0, -1, 1000, HUGE, -HUGE))
    else:
        numbers[spot] += chance.choice((-2, -1, 1, 2))
    return numbers


# All that can be asked of what's there.
ASK_ALL = [person(x) for x in PEOPLE] + [family(f) for f in range(1, 13)] + [members(f) for f in range(1, 13)] + [
    line(f) for f in range(1, 13)] + [waiting(), at(0), at(1), roots(), told(), counts()]


class AgainstModel(Calls):
    def mixed_calls(self, seed, names, how_many):
        chance = random.Random(seed)
        calls = [one_call(chance, seed % 2 == 0) for turn in range(how_many)]
        if names is not None:
            calls = [call for call in calls if call[0] in names]
        return [born(1), split(1, 2, 3, 4, 5, 6)] + calls

    def check_calls(self, calls):
        model = Model()
        self.assertEqual(run(*calls), [model.answer(call) for call in calls], calls)

    def check_run(self, seed, names):
        self.check_calls(self.mixed_calls(seed, names, 110) + ASK_ALL)

    def test_all_calls_mixed(self):
        for seed in range(400):
            self.check_run(seed, None)

    def test_musters_and_moves(self):
        for seed in range(400):
            self.check_run(seed, (1, 2, 3, 4, 5, 9, 10))

    def test_meetings_in_few_families(self):
        for seed in range(400):
            self.check_run(seed, (1, 2, 6, 7, 8, 10))

    def test_kin_and_alike_of_all_pairs(self):
        pairs = [(x, y) for x in range(1, 9) for y in range(1, 9)]
        for seed in range(0, 200, 2):
            calls = self.mixed_calls(seed, None, 60)
            self.check_calls(calls + [kin(x, y) for x, y in pairs])
            self.check_calls(calls + [alike(f, g) for f, g in pairs])

    def test_what_is_told_is_loaded_in_the_midst(self):
        for seed in range(300):
            calls = self.mixed_calls(seed, None, 100)
            before, behind = calls[:50], calls[50:] + ASK_ALL
            loading = load_of(self.last(*before, told()))
            plain = run(*calls, *ASK_ALL)[50:]
            self.assertEqual(run(loading, *behind), [[0, 0]] + plain)
            self.assertEqual(run(*before, loading, *behind)[50:], [[0, 0]] + plain)
            self.check_calls([clear(), loading] + behind)

    def test_loads_of_what_is_nearly_right(self):
        done = 0
        for seed in range(3000):
            chance = random.Random(seed)
            # Without leave, close and recall there is more to spoil.
            before = self.mixed_calls(seed, (0, 1, 2, 4, 6, 7, 8, 9), 60)
            answer = self.last(*before, told())
            end = 2 + answer[1]
            n, forest, waits = answer[0], answer[2:end], answer[end + 1:]
            if waits and chance.randrange(2):
                waits = spoil(chance, waits)
            elif chance.randrange(20):
                forest = spoil(chance, forest)
            else:
                n = chance.randint(1, n)
            loading = load(n, forest, waits)
            model = Model()
            calls = [born(77), muster(77, 0), match(77, 1, 2), loading, told(), counts()]
            given = run(*calls)
            self.assertEqual(given, [model.answer(call) for call in calls], loading)
            done += given[3] == [0, 0]
        # Both answers must have come up often, or this shows little.
        self.assertTrue(300 < done < 2700, done)


if __name__ == "__main__":
    unittest.main()
