"""What `answers` is handed and gives back."""

import sys
import unittest

from kinfolds.families import answers
from tests.helping import (
    HUGE, adopt, alike, assemble, at, born, chain, clear, close, counts, family, found, gather, inner, joined, kin,
    leave, line, load, match, members, muster, one, path, person, recall, roots, run, split, told, tree, waiting,
)

ALL_CALLS = [
    born(1), split(1, 2, 3, 4, 5, 6), found(2), found(2), close(2), born(9), adopt(9, 1), assemble(1, 0, 2),
    assemble(3, 0, 2), gather(1, 0, 2), gather(4, 0, 2), match(1, 0, 1), match(4, 1, 0), muster(1, 0), recall(1),
    person(1), family(1), leave(6), split(1, 1, 1), born(-HUGE), family(HUGE),
    members(1), path(2), kin(2, 9), line(1), alike(1, 2), muster(1, 5), waiting(), at(5), roots(), told(), counts(),
    load(3, [9]), load(9, tree(1, 4, one(0, 5), inner(2, tree(8, 9, one(3, 6), one(7, 7)))), [6, 2, 7, 3]), told(),
    split(7, 8), gather(8, 7, 2), leave(5), line(1), clear(), counts(), load(2, tree(1, 1, one(0, 1)), [1, 3, 0, 1]),
]


class Interface(unittest.TestCase):
    def test_the_list_handed_in_stays_the_same(self):
        calls = joined(ALL_CALLS)
        copy = list(calls)
        answers(calls)
        self.assertEqual(calls, copy)

    def test_the_list_handed_in_is_not_changed_for_a_while_either(self):
        class Watched(list):
            def refuse(self, *rest):
                raise AssertionError("the list that was handed in is changed")

            append = extend = insert = pop = remove = clear = reverse = sort = refuse
            __setitem__ = __delitem__ = __iadd__ = __imul__ = refuse

        calls = joined(ALL_CALLS)
        self.assertEqual(answers(Watched(calls)), answers(calls))

    def test_what_is_given_back_is_another_list_each_time(self):
        calls = joined(ALL_CALLS)
        first = answers(calls)
        self.assertIsNot(first, calls)
        kept = list(first)
        second = answers(calls)
        self.assertIsNot(first, second)
        second.append(0)
        self.assertEqual(first, kept)

    def test_a_second_time_knows_nothing_of_the_first(self):
        first = answers(joined(ALL_CALLS))
        self.assertEqual(answers(told() + counts()), [3, 1, 0, 0, 5, 0, 0, 1, 0, 0])
        self.assertEqual(answers(person(1) + family(1) + recall(1)), [1, -10, 1, -6, 1, -10])
        self.assertEqual(answers(born(1) + person(1)), [2, 0, 0, 5, 1, 0, 0, 0, 0])
        self.assertEqual(answers(joined(ALL_CALLS)), first)

    def test_all_are_plain_whole_numbers(self):
        given = answers(joined(ALL_CALLS))
        self.assertIs(type(given), list)
        self.assertEqual({type(number) for number in given}, {int})

    def test_one_answer_for_each_call_with_its_count_ahead(self):
        self.assertEqual({call[0] for call in ALL_CALLS}, set(range(25)))
        self.assertEqual(len(run(*ALL_CALLS)), len(ALL_CALLS))
        self.assertEqual(answers([5, 1]), [1, -10])

    def test_a_refused_call_in_the_midst_of_others(self):
        self.assertEqual(answers([0, 1, 8, 1, 2, 1000, 0, 2, 12, 2]),
                         [2, 0, 0, 1, -1, 2, 0, 0, 6, 0, 0, 1, 1, 0, 1])

    def test_as_large_as_it_may_be(self):
        calls = [born(1)]
        for turn in range(14):
            calls.append(split(1, *range(10 + 100 * turn, 110 + 100 * turn)))
        self.assertEqual(run(*calls, split(1, *range(5000, 5100)), family(1))[-1], [0, 0, 1501, 1501, 0, 1501])
        for x in range(10, 140):
            calls.append(muster(x, 7))
        given = run(*calls, person(10), person(139))
        self.assertEqual(given[-2:], [[1, 1, 4, 7, 0], [1, 130, 4, 7, 0]])

    def test_a_hundred_and_fifty_families_within_and_beside(self):
        calls = [born(x) for x in range(1, 51)] + [found(x) for x in range(1, 51)] + [adopt(x, 1) for x in range(2, 51)]
        given = run(*calls, family(1))
        self.assertEqual(given[-1], [0, 0, 50, 49, 1, 50])

    def test_the_largest_answers(self):
        people = [one(serial, serial + 1) for serial in range(499)]
        calls = [load(2, tree(1, HUGE, *people))]
        for turn in range(49):
            calls += [told(), members(1), line(1)]
        given = run(*calls, counts(), roots())
        self.assertEqual(given[1], [2, 1500, 1, HUGE, 499] + joined(people) + [0])
        self.assertEqual(given[2], [499] + joined(people))
        self.assertEqual(given[3], [499] + list(range(1, 500)))
        self.assertEqual(given[1:4] * 49, given[1:148])

    def test_within_few_calls_of_one_another(self):
        # What's nested deep is gone through by loops, so little room for calls within one another is enough.
        deep = joined([load(99, chain(40)), told(), counts(), line(1), path(1), kin(1, 1), alike(1, 1), members(1),
                       family(1), load(HUGE, chain(290)), leave(1), counts()])
        wanted = answers(deep)
        limit = sys.getrecursionlimit()
        sys.setrecursionlimit(frames_here() + 25)
        try:
            given = answers(deep)
        finally:
            sys.setrecursionlimit(limit)
        self.assertEqual(given, wanted)


def frames_here():
    frame = sys._getframe()
    count = 0
    while frame is not None:
        count += 1
        frame = frame.f_back
    return count


if __name__ == "__main__":
    unittest.main()
