"""found, close, person, family."""

import unittest

from kinfolds.families import answers
from tests.helping import (
    HUGE, NOBODY_OFF, TOP_ID, Calls, adopt, assemble, born, close, family, found, gather, leave, match, muster, person,
    recall, run, split,
)


class Found(Calls):
    def test_whole_list(self):
        self.assertEqual(
            answers([0, 1, 1, 1, 1, 2, 2, 2, 11, 2, 12, 2, 12, 1]),
            [2, 0, 0, 2, 0, 0, 2, 0, 0, 5, 2, 0, 0, 0, 0, 6, 1, 1, 1, 1, 0, 1, 6, 0, 0, 2, 1, 1, 2],
        )

    def test_takes_the_next_number_and_the_founders_serial(self):
        self.check(
            (born(1), NOBODY_OFF), (split(1, 2, 3), NOBODY_OFF), (born(8), NOBODY_OFF), (found(3), NOBODY_OFF),
            (person(3), [3, 0, 0, 0, 0]), (family(3), [1, 2, 1, 1, 0, 1]), (family(1), [0, 0, 3, 2, 1, 3]),
            (found(3), NOBODY_OFF), (person(3), [4, 0, 0, 0, 0]), (family(4), [3, 0, 1, 1, 0, 1]),
            (family(3), [1, 2, 1, 0, 1, 1]), (family(1), [0, 0, 3, 2, 1, 3]),
            (split(3, 4, 5), NOBODY_OFF), (family(4), [3, 0, 3, 3, 0, 3]), (family(1), [0, 0, 3, 2, 1, 5]),
        )

    def test_depth(self):
        deep = [born(1), split(1, 2)] + [found(1)] * 38
        self.check_refused(deep + [found(1)], found(1), -5, [split(1, 3), family(40), family(41)])
        given = run(*deep, family(39), found(1), family(40), found(1), family(41), found(2), person(2))
        self.assertEqual(given[40:], [[38, 0, 1, 1, 0, 1], [0, 0], [39, 0, 1, 1, 0, 1], [-5], [-6], [0, 0],
                                      [41, 0, 0, 0, 0]])

    def test_depth_is_that_of_the_family_now(self):
        deep = [born(1)] + [found(1)] * 39
        self.assertEqual(run(*deep, close(1), found(1), found(1))[40:], [[0, 0], [0, 0], [-5]])
        self.assertEqual(run(*deep, split(1, 2), adopt(2, 39), found(2), found(2))[40:],
                         [[0, 0], [0, 0], [0, 0], [-5]])

    def test_refusals(self):
        self.check_refused([born(1)], found(2), -10)
        self.check_refused([born(1), split(1, 2), gather(1, 0, 2)], found(1), -7, [gather(2, 0, 9)])
        self.check_refused([born(1)] + [found(1)] * 39 + [gather(1, 0, 2)], found(1), -7)

    def test_edges_of_the_range(self):
        self.assertEqual(self.last(born(TOP_ID), found(TOP_ID)), [0, 0])
        self.assertEqual(self.last(born(2), found(1)), [-10])
        for x in (0, -1, TOP_ID + 1, HUGE, -HUGE):
            self.check_refused([born(1)], found(x), -1)


class Close(Calls):
    def test_whole_list(self):
        self.assertEqual(
            answers([0, 1, 1, 1, 1, 2, 2, 2, 3, 2, 11, 2, 12, 2, 12, 1]),
            [2, 0, 0, 2, 0, 0, 2, 0, 0, 2, 0, 0, 5, 1, 1, 0, 0, 0, 1, -6, 6, 0, 0, 2, 2, 0, 2],
        )

    def test_takes_the_serial_that_the_family_had(self):
        self.check(
            (born(1), NOBODY_OFF), (split(1, 2, 3), NOBODY_OFF), (found(2), NOBODY_OFF), (split(2, 4), NOBODY_OFF),
            (leave(2), NOBODY_OFF), (person(4), [2, 1, 0, 0, 0]), (close(4), NOBODY_OFF),
            (person(4), [1, 1, 0, 0, 0]), (family(1), [0, 0, 3, 3, 0, 3]), (family(2), [-6]),
            (split(4, 5), NOBODY_OFF), (person(5), [1, 3, 0, 0, 0]),
        )

    def test_one_family_behind_another(self):
        self.check(
            (born(1), NOBODY_OFF), (found(1), NOBODY_OFF), (found(1), NOBODY_OFF), (close(1), NOBODY_OFF),
            (person(1), [2, 0, 0, 0, 0]), (family(2), [1, 0, 1, 1, 0, 1]), (close(1), NOBODY_OFF),
            (person(1), [1, 0, 0, 0, 0]), (close(1), [-8]), (found(1), NOBODY_OFF), (person(1), [4, 0, 0, 0, 0]),
        )

    def test_parent_0(self):
        self.check_refused([born(1)], close(1), -8)
        self.check_refused([born(1), split(1, 2)], close(1), -8)

    def test_another_child(self):
        self.check_refused([born(1), found(1), split(1, 2)], close(1), -8)
        self.check_refused([born(1), found(1), split(1, 2), found(2)], close(1), -8)
        self.check_refused([born(1), found(1), split(1, 2), muster(2, 0)], close(1), -8, [muster(1, 0)])

    def test_refusals(self):
        self.check_refused([born(1), found(1)], close(2), -10)
        self.check_refused([born(1), found(1), assemble(1, 0, 2)], close(1), -7)
        self.check_refused([born(1), assemble(1, 0, 2)], close(1), -7)
        self.check_refused([born(1), found(1), split(1, 2), match(1, 0, 2)], close(1), -7, [match(2, 2, 0)])

    def test_edges_of_the_range(self):
        self.assertEqual(self.last(born(TOP_ID), found(TOP_ID), close(TOP_ID)), [0, 0])
        self.assertEqual(self.last(born(2), close(1)), [-10])
        for x in (0, -1, TOP_ID + 1, HUGE, -HUGE):
            self.check_refused([born(1), found(1)], close(x), -1)


class AskedOfPeople(Calls):
    def test_whole_list(self):
        self.assertEqual(answers([0, 3, 9, 3, 4, 11, 3]), [2, 0, 0, 3, 0, 1, 3, 5, 1, 0, 0, 0, 0])
        self.assertEqual(answers([0, 3, 8, 3, 4, 5, 11, 3]), [2, 0, 0, 1, 1, 5, 1, 0, 3, 4, 5])

    def test_each_kind_of_wait(self):
        start = [born(1), split(1, 2)]
        self.assertEqual(self.last(*start, person(2)), [1, 1, 0, 0, 0])
        self.assertEqual(self.last(*start, assemble(2, 7, 5), person(2)), [1, 1, 1, 7, 4])
        self.assertEqual(self.last(*start, gather(2, 8, 5), person(2)), [1, 1, 2, 8, 5])
        self.assertEqual(self.last(*start, match(2, 9, 5), person(2)), [1, 1, 3, 9, 5])
        self.assertEqual(self.last(*start, muster(2, 10), person(2)), [1, 1, 4, 10, 0])
        self.assertEqual(self.last(*start, muster(2, 10), recall(2), person(2)), [1, 1, 0, 0, 0])

    def test_refusals(self):
        self.check_refused([born(1)], person(2), -10)
        self.check_refused([born(1), leave(1)], person(1), -10)
        self.check((person(1), [-10]), (person(TOP_ID), [-10]))
        for x in (0, -1, TOP_ID + 1, HUGE, -HUGE):
            self.check_refused([born(1)], person(x), -1)

    def test_changes_nothing(self):
        before = [born(1), split(1, 2), muster(1, 3)]
        self.assertEqual(run(*before, person(1), person(1), muster(2, 3))[3:],
                         [[1, 0, 4, 3, 0], [1, 0, 4, 3, 0], [0, 2, 1, 2]])


class AskedOfFamilies(Calls):
    def test_whole_list(self):
        self.assertEqual(answers([0, 1, 2, 1, 12, 1, 12, 2, 12, 3]),
                         [2, 0, 0, 2, 0, 0, 6, 0, 0, 1, 0, 1, 1, 6, 1, 0, 1, 1, 0, 1, 1, -6])

    def test_counts_children_and_those_held(self):
        before = [born(1), split(1, 2, 3, 4), found(2), split(2, 5, 6), found(3), found(6), split(6, 7, 8)]
        self.assertEqual(
            run(*before, family(1), family(2), family(3), family(4))[7:],
            [[0, 0, 4, 2, 2, 8], [1, 1, 3, 2, 1, 5], [1, 2, 1, 1, 0, 1], [2, 2, 3, 3, 0, 3]],
        )

    def test_refusals(self):
        self.check_refused([born(1)], family(2), -6)
        self.check_refused([born(1), leave(1)], family(1), -6)
        self.check((family(1), [-6]), (family(HUGE), [-6]))
        for f in (0, -1, -HUGE):
            self.check_refused([born(1)], family(f), -1)


if __name__ == "__main__":
    unittest.main()
