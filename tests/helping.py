"""Writes calls by name, and tells the answers apart."""

import unittest

from kinfolds.families import answers

HUGE = 10 ** 18
TOP_ID = 10 ** 9

NOBODY_OFF = [0, 0]


def born(x):
    return [0, x]


def split(x, *ids):
    return [1, x, len(ids)] + list(ids)


def found(x):
    return [2, x]


def close(x):
    return [3, x]


def adopt(x, f):
    return [4, x, f]


def leave(x):
    return [5, x]


def assemble(x, p, n):
    return [6, x, p, n]


def gather(x, p, n):
    return [7, x, p, n]


def match(x, p, q):
    return [8, x, p, q]


def muster(x, p):
    return [9, x, p]


def recall(x):
    return [10, x]


def person(x):
    return [11, x]


def family(f):
    return [12, f]


def members(f):
    return [13, f]


def path(x):
    return [14, x]


def kin(x, y):
    return [15, x, y]


def line(f):
    return [16, f]


def alike(f, g):
    return [17, f, g]


def waiting():
    return [18]


def at(p):
    return [19, p]


def roots():
    return [20]


def told():
    return [21]


def load(n, forest=(), waits=()):
    return [22, n, len(forest)] + list(forest) + [len(waits)] + list(waits)


def clear():
    return [23]


def counts():
    return [24]


def one(serial, x):
    """A person as the forest tells it."""
    return [serial, 0, x]


def inner(serial, family_told):
    """A family within another as the forest tells it."""
    return [serial, 1] + family_told


def tree(number, next_serial, *children):
    return [number, next_serial, len(children)] + joined(children)


def chain(depth, first=1, *others):
    """Families within one another, numbered from the first on; the others and the person 1 belong to the innermost."""
    family_told = tree(first + depth - 1, 1 + len(others), one(0, 1), *others)
    for number in range(first + depth - 2, first - 1, -1):
        family_told = tree(number, 1, inner(0, family_told))
    return family_told


def load_of(answer):
    """The call that loads what told answered."""
    end = 2 + answer[1]
    if answer[end] != len(answer) - end - 1:
        raise AssertionError("the lengths told don't fit")
    return load(answer[0], answer[2:end], answer[end + 1:])


def joined(calls):
    return [number for call in calls for number in call]


def told_apart(numbers):
    rows = []
    spot = 0
    while spot < len(numbers):
        end = spot + 1 + numbers[spot]
        rows.append(numbers[spot + 1:end])
        spot = end
    if spot != len(numbers):
        raise AssertionError("an answer is shorter than the count before it")
    return rows


def run(*calls):
    """The answers, a list for each call."""
    rows = told_apart(answers(joined(calls)))
    if len(rows) != len(calls):
        raise AssertionError("not as many answers as calls")
    return rows


def off(*ids):
    return [0, len(ids)] + list(ids)


# What can be seen of the people 1 to 9 and the families 1 to 9, of all together, and then of the next number.
LOOK = [person(x) for x in range(1, 10)] + [family(f) for f in range(1, 10)] + [
    told(), counts(), born(900), person(900),
]

OUT_OF_IDS = (0, -1, TOP_ID + 1, HUGE, -HUGE)
OUT_OF_PLACES = (-1, 1000, HUGE, -HUGE)
# The range of families' numbers ends where that of all numbers ends.
OUT_OF_NUMBERS = (0, -1, -HUGE)


class Calls(unittest.TestCase):
    def last(self, *calls):
        return run(*calls)[-1]

    def check(self, *pairs):
        """Each pair is a call and its answer; all are made on one set of families."""
        given = run(*[pair[0] for pair in pairs])
        self.assertEqual(given, [pair[1] for pair in pairs])

    def check_refused(self, before, call, refusal, behind=()):
        """The call is refused, and all that's answered behind it is as if it had not been made."""
        behind = list(behind) + LOOK
        given = run(*before, call, *behind)
        self.assertEqual(given[len(before)], [refusal], (before, call))
        without = run(*before, *behind)
        self.assertEqual(given[:len(before)] + given[len(before) + 1:], without, (before, call))
