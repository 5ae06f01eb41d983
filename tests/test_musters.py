"""muster, and who is set off behind adopt, leave and muster."""

import unittest

from kinfolds.families import answers
from tests.helping import (
    HUGE, NOBODY_OFF, TOP_ID, Calls, adopt, assemble, born, close, family, found, gather, leave, match, muster, off,
    person, recall, run, split,
)

THREE = [born(1), split(1, 2, 3)]


class Muster(Calls):
    def test_whole_list(self):
        self.assertEqual(
            answers([0, 1, 1, 1, 2, 2, 3, 9, 3, 5, 9, 1, 5, 11, 1, 9, 2, 5, 11, 3]),
            [2, 0, 0, 2, 0, 0, 1, 1, 1, 1, 5, 1, 0, 4, 5, 0, 5, 0, 3, 3, 1, 2, 5, 1, 2, 0, 0, 0],
        )

    def test_alone(self):
        self.check((born(1), NOBODY_OFF), (muster(1, 0), off(1)), (person(1), [1, 0, 0, 0, 0]), (muster(1, 9), off(1)))

    def test_at_one_and_the_same_place(self):
        self.assertEqual(run(*THREE, muster(1, 5), muster(2, 6), muster(3, 5), recall(2), muster(2, 5))[2:],
                         [[1], [1], [1], [0, 0], off(1, 3, 2)])

    def test_all_must_wait_by_kind_4(self):
        for other in (assemble(3, 5, 2), gather(3, 5, 2), match(3, 5, 5)):
            self.assertEqual(run(*THREE, other, muster(1, 5), muster(2, 5), recall(3), muster(3, 5))[2:],
                             [[1], [1], [1], [0, 0], off(1, 2, 3)])

    def test_one_comes_by_a_split_in_between(self):
        self.assertEqual(run(*THREE, muster(1, 5), muster(2, 5), split(3, 4), muster(3, 5), muster(4, 5))[4:],
                         [[0, 0], [1], off(1, 2, 3, 4)])

    def test_those_of_another_family_do_not_count_and_stay(self):
        before = THREE + [born(6), split(6, 7), muster(6, 5), muster(1, 5), muster(2, 5)]
        self.assertEqual(run(*before, muster(3, 5), person(6), muster(7, 5))[7:],
                         [off(1, 2, 3), [2, 0, 4, 5, 0], off(6, 7)])

    def test_not_with_a_family_within(self):
        before = THREE + [found(3), muster(1, 5)]
        self.assertEqual(run(*before, muster(2, 5), person(1))[4:], [[1], [1, 0, 4, 5, 0]])

    def test_the_family_within_musters_by_itself(self):
        before = THREE + [found(3), split(3, 4), muster(1, 5), muster(2, 5), muster(4, 5)]
        self.assertEqual(run(*before, muster(3, 5), person(1), person(2))[7:],
                         [off(4, 3), [1, 0, 4, 5, 0], [1, 1, 4, 5, 0]])

    def test_refusals(self):
        self.check_refused(THREE, muster(6, 0), -10)
        self.check_refused(THREE + [muster(1, 0)], muster(1, 0), -7, [muster(2, 0), muster(3, 0)])
        self.check_refused(THREE + [muster(1, 0)], muster(1, 1), -7, [muster(2, 0), muster(3, 0)])
        self.check_refused(THREE + [muster(1, 0), muster(2, 0)], muster(6, 0), -10, [muster(3, 0)])
        self.check_refused(THREE + [match(1, 0, 0)], muster(1, 0), -7, [match(2, 0, 0)])

    def test_the_refusal_told_first(self):
        for call in (muster(6, 1000), muster(1, -1), muster(0, 0)):
            self.check_refused(THREE + [muster(1, 0)], call, -1)

    def test_edges_of_the_ranges(self):
        self.assertEqual(self.last(born(TOP_ID), muster(TOP_ID, 0)), off(TOP_ID))
        self.assertEqual(self.last(born(TOP_ID), muster(TOP_ID, 999)), off(TOP_ID))
        for x in (0, -1, TOP_ID + 1, HUGE, -HUGE):
            self.check_refused(THREE, muster(x, 0), -1)
        for p in (-1, 1000, HUGE, -HUGE):
            self.check_refused(THREE, muster(1, p), -1)


class BehindLeave(Calls):
    def test_the_rest_is_set_off_in_order_of_coming(self):
        before = THREE + [muster(3, 5), muster(1, 5)]
        self.assertEqual(run(*before, leave(2), person(3), person(1))[4:],
                         [off(3, 1), [1, 2, 0, 0, 0], [1, 0, 0, 0, 0]])

    def test_not_at_two_places_nor_by_another_kind(self):
        self.assertEqual(self.last(*THREE, muster(3, 5), muster(1, 6), leave(2)), off())
        for other in (assemble(3, 5, 2), gather(3, 5, 2), match(3, 5, 5)):
            self.assertEqual(self.last(*THREE, other, muster(1, 5), leave(2)), off())
        self.assertEqual(self.last(*THREE, muster(1, 5), leave(2)), off())

    def test_the_family_that_another_has_just_gone_from(self):
        before = THREE + [found(2), muster(3, 5), muster(1, 5)]
        self.assertEqual(self.last(*before, leave(2)), off(3, 1))

    def test_behind_several_that_go(self):
        before = THREE + [found(2), found(2), found(2), muster(3, 5), muster(1, 5)]
        self.assertEqual(run(*before, leave(2), family(1), family(2))[7:],
                         [off(3, 1), [0, 0, 3, 2, 0, 2], [-6]])

    def test_not_while_a_family_within_is_left(self):
        before = THREE + [found(2), found(3), muster(1, 5)]
        self.assertEqual(run(*before, leave(2), person(1), leave(3))[5:], [off(), [1, 0, 4, 5, 0], off(1)])
        self.assertEqual(run(*THREE, found(2), split(2, 4), muster(1, 5), muster(3, 5), leave(2), leave(4))[6:],
                         [off(), off(1, 3)])

    def test_in_the_family_within(self):
        before = THREE + [found(2), split(2, 4), muster(4, 5), muster(1, 5), muster(3, 5)]
        self.assertEqual(run(*before, leave(2), person(1))[7:], [off(4), [1, 0, 4, 5, 0]])

    def test_a_family_where_nobody_belongs_does_not_muster(self):
        before = [born(1), split(1, 2), found(1), found(2)]
        self.assertEqual(run(*before, leave(1), family(1), leave(2))[4:], [off(), [0, 0, 2, 0, 1, 1], off()])


class BehindAdopt(Calls):
    def test_the_rest_is_set_off_in_order_of_coming(self):
        before = THREE + [born(9), muster(3, 5), muster(1, 5)]
        self.assertEqual(run(*before, adopt(2, 2), person(3), person(2))[5:],
                         [off(3, 1), [1, 2, 0, 0, 0], [2, 1, 0, 0, 0]])

    def test_the_family_that_another_has_just_gone_from(self):
        before = THREE + [born(9), found(2), found(2), muster(3, 5), muster(1, 5)]
        self.assertEqual(run(*before, adopt(2, 2), family(3), family(4))[7:], [off(3, 1), [-6], [-6]])

    def test_not_if_it_comes_into_that_family(self):
        before = THREE + [found(2), muster(3, 5), muster(1, 5)]
        self.assertEqual(run(*before, adopt(2, 1), family(2), muster(2, 5))[5:], [off(), [-6], off(3, 1, 2)])

    def test_not_if_it_comes_into_a_family_within(self):
        before = THREE + [found(3), muster(1, 5)]
        self.assertEqual(run(*before, adopt(2, 2), person(1))[4:], [off(), [1, 0, 4, 5, 0]])

    def test_the_new_family_waits_for_the_one_who_came(self):
        before = [born(1), split(1, 2), muster(1, 5), born(8)]
        self.assertEqual(run(*before, adopt(8, 1), muster(2, 5), muster(8, 5))[4:], [off(), [1], off(1, 2, 8)])


class NotBehindOtherCalls(Calls):
    def test_nobody_is_set_off(self):
        before = THREE + [muster(1, 5), muster(2, 5)]
        still = [person(1), person(2)]
        for call, answer in (
            (born(4), [0, 0]), (split(3, 4), [0, 0]), (found(3), [0, 0]), (close(3), [-8]), (assemble(3, 5, 1), off(3)),
            (assemble(3, 5, 2), [1]), (gather(3, 5, 1), off(3)), (gather(3, 5, 2), [1]), (match(3, 5, 5), [1]),
            (person(3), [1, 2, 0, 0, 0]), (family(1), [0, 0, 3, 3, 0, 3]),
        ):
            self.assertEqual(run(*before, call, *still)[4:], [answer, [1, 0, 4, 5, 0], [1, 1, 4, 5, 0]])

    def test_not_behind_close_and_recall(self):
        before = THREE + [found(3), muster(1, 5), muster(2, 5)]
        self.assertEqual(run(*before, close(3), person(1), muster(3, 5))[5:],
                         [[0, 0], [1, 0, 4, 5, 0], off(1, 2, 3)])
        before = THREE + [muster(1, 5), muster(2, 5), muster(3, 6)]
        self.assertEqual(run(*before, recall(3), person(1), person(2), leave(3))[5:],
                         [[0, 0], [1, 0, 4, 5, 0], [1, 1, 4, 5, 0], off(1, 2)])

    def test_not_behind_an_absorption(self):
        before = THREE + [muster(1, 5), assemble(2, 5, 2)]
        self.assertEqual(run(*before, assemble(3, 5, 2), person(1), muster(2, 5))[4:],
                         [[2, 1, 2], [1, 0, 4, 5, 0], off(1, 2)])


if __name__ == "__main__":
    unittest.main()
