"""born, split, adopt, leave."""

import unittest

from kinfolds.families import answers
from tests.helping import (
    HUGE, NOBODY_OFF, TOP_ID, Calls, adopt, assemble, born, family, found, leave, muster, off, person, recall, run,
    split,
)


class Born(Calls):
    def test_whole_list(self):
        self.assertEqual(answers([0, 7, 11, 7, 12, 1]), [2, 0, 0, 5, 1, 0, 0, 0, 0, 6, 0, 0, 1, 1, 0, 1])

    def test_each_begins_a_family_with_the_next_number(self):
        self.check(
            (born(5), NOBODY_OFF), (born(3), NOBODY_OFF), (born(9), NOBODY_OFF),
            (person(5), [1, 0, 0, 0, 0]), (person(3), [2, 0, 0, 0, 0]), (person(9), [3, 0, 0, 0, 0]),
            (family(4), [-6]),
        )

    def test_lives_already(self):
        self.check_refused([born(1)], born(1), -3)
        self.check_refused([born(1), muster(1, 3)], born(1), -3)
        self.check_refused([born(1), split(1, 2)], born(2), -3)

    def test_an_id_that_left_may_be_born_again_and_numbers_never_fall(self):
        self.check(
            (born(1), NOBODY_OFF), (leave(1), NOBODY_OFF), (family(1), [-6]),
            (born(1), NOBODY_OFF), (person(1), [2, 0, 0, 0, 0]), (family(1), [-6]),
        )

    def test_a_refused_birth_takes_no_number(self):
        self.check((born(1), NOBODY_OFF), (born(1), [-3]), (born(0), [-1]), (born(2), NOBODY_OFF),
                   (person(2), [2, 0, 0, 0, 0]))

    def test_edges_of_the_range(self):
        self.check((born(1), NOBODY_OFF), (born(TOP_ID), NOBODY_OFF), (person(TOP_ID), [2, 0, 0, 0, 0]))
        for x in (0, -1, TOP_ID + 1, HUGE, -HUGE):
            self.check_refused([born(1)], born(x), -1)


class Split(Calls):
    def test_whole_list(self):
        self.assertEqual(
            answers([0, 1, 1, 1, 3, 8, 4, 6, 11, 4, 12, 1]),
            [2, 0, 0, 2, 0, 0, 5, 1, 2, 0, 0, 0, 6, 0, 0, 4, 4, 0, 4],
        )

    def test_serials_follow_the_list_and_go_on_growing(self):
        self.check(
            (born(1), NOBODY_OFF), (split(1, 30, 20), NOBODY_OFF), (split(20, 10), NOBODY_OFF),
            (person(30), [1, 1, 0, 0, 0]), (person(20), [1, 2, 0, 0, 0]), (person(10), [1, 3, 0, 0, 0]),
            (family(1), [0, 0, 4, 4, 0, 4]),
        )

    def test_a_serial_is_not_given_twice(self):
        self.check(
            (born(1), NOBODY_OFF), (split(1, 2), NOBODY_OFF), (leave(2), NOBODY_OFF), (split(1, 2), NOBODY_OFF),
            (person(2), [1, 2, 0, 0, 0]), (family(1), [0, 0, 3, 2, 0, 2]),
        )

    def test_lengths_of_the_list(self):
        for length in (1, 2, 99, 100):
            ids = list(range(2, 2 + length))
            given = run(born(1), split(1, *ids), person(ids[-1]), family(1))
            self.assertEqual(given[1:], [[0, 0], [1, length, 0, 0, 0],
                                         [0, 0, length + 1, length + 1, 0, length + 1]])
        for length in (0, 101, 102, 1500):
            self.check_refused([born(1)], split(1, *range(2, 2 + length)), -2)

    def test_numbers_of_the_list(self):
        self.check((born(2), NOBODY_OFF), (split(2, 1, TOP_ID), NOBODY_OFF), (person(TOP_ID), [1, 2, 0, 0, 0]))
        for y in (0, -1, TOP_ID + 1, HUGE, -HUGE):
            self.check_refused([born(1)], split(1, y), -2)
            self.check_refused([born(1)], split(1, 2, y, 3), -2)
            self.check_refused([born(1)], split(1, 2, 3, y), -2)

    def test_an_id_twice(self):
        self.check_refused([born(1)], split(1, 2, 2), -2)
        self.check_refused([born(1)], split(1, 2, 3, 4, 2), -2)

    def test_refusals(self):
        self.check_refused([born(1)], split(2, 3), -10)
        self.check_refused([born(1), split(1, 2), muster(1, 0)], split(1, 3), -7, [muster(2, 0)])
        self.check_refused([born(1), born(2)], split(1, 2), -3)
        self.check_refused([born(1), born(2)], split(1, 3, 4, 2), -3)
        self.check_refused([born(1)], split(1, 1), -3)

    def test_the_refusal_told_first(self):
        waits = [born(1), split(1, 2), muster(1, 0)]
        self.check_refused(waits, split(0), -1)
        self.check_refused(waits, split(TOP_ID + 1, 3, 3), -1)
        self.check_refused(waits, split(5), -2)
        self.check_refused(waits, split(1, 3, 3), -2)
        self.check_refused(waits, split(2, 1, 1), -2)
        self.check_refused(waits, split(5, 1), -10)
        self.check_refused(waits, split(5, 5), -10)
        self.check_refused(waits, split(1, 2), -7)

    def test_edges_of_the_range(self):
        self.check((born(TOP_ID), NOBODY_OFF), (split(TOP_ID, 1), NOBODY_OFF), (split(1, 2), NOBODY_OFF))
        for x in (0, -1, TOP_ID + 1, HUGE, -HUGE):
            self.check_refused([born(1)], split(x, 5), -1)

    def test_the_call_behind_a_refused_list_is_read_where_it_stands(self):
        self.assertEqual(answers([0, 1, 1, 1, 0, 11, 1, 1, 1, 2, 5, 5, 11, 1]),
                         [2, 0, 0, 1, -2, 5, 1, 0, 0, 0, 0, 1, -2, 5, 1, 0, 0, 0, 0])
        self.assertEqual(answers([1, 0, 3, 0, 1, 0, 11, 1]), [1, -1, 1, -10])


class Adopt(Calls):
    def test_whole_list(self):
        self.assertEqual(
            answers([0, 1, 0, 2, 4, 2, 1, 11, 2, 12, 1, 12, 2]),
            [2, 0, 0, 2, 0, 0, 2, 0, 0, 5, 1, 1, 0, 0, 0, 6, 0, 0, 2, 2, 0, 2, 1, -6],
        )

    def test_takes_the_next_serial_and_leaves_its_own_free(self):
        self.check(
            (born(1), NOBODY_OFF), (split(1, 2, 3), NOBODY_OFF), (born(4), NOBODY_OFF),
            (adopt(2, 2), NOBODY_OFF), (person(2), [2, 1, 0, 0, 0]), (family(2), [0, 0, 2, 2, 0, 2]),
            (family(1), [0, 0, 3, 2, 0, 2]),
            (adopt(2, 1), NOBODY_OFF), (person(2), [1, 3, 0, 0, 0]), (family(1), [0, 0, 4, 3, 0, 3]),
            (family(2), [0, 0, 2, 1, 0, 1]),
        )

    def test_into_the_family_around_the_old_one_which_goes(self):
        self.check(
            (born(1), NOBODY_OFF), (found(1), NOBODY_OFF), (found(1), NOBODY_OFF), (adopt(1, 1), NOBODY_OFF),
            (person(1), [1, 1, 0, 0, 0]), (family(1), [0, 0, 2, 1, 0, 1]), (family(2), [-6]), (family(3), [-6]),
        )

    def test_into_a_family_within_the_old_one(self):
        self.check(
            (born(1), NOBODY_OFF), (split(1, 2), NOBODY_OFF), (found(2), NOBODY_OFF), (adopt(1, 2), NOBODY_OFF),
            (person(1), [2, 1, 0, 0, 0]), (family(1), [0, 0, 2, 0, 1, 2]), (family(2), [1, 1, 2, 2, 0, 2]),
        )

    def test_families_go_one_behind_another(self):
        self.check(
            (born(1), NOBODY_OFF), (split(1, 2), NOBODY_OFF), (found(2), NOBODY_OFF), (found(2), NOBODY_OFF),
            (found(2), NOBODY_OFF), (born(9), NOBODY_OFF), (family(1), [0, 0, 2, 1, 1, 2]),
            (adopt(2, 5), NOBODY_OFF),
            (family(4), [-6]), (family(3), [-6]), (family(2), [-6]), (family(1), [0, 0, 2, 1, 0, 1]),
            (person(2), [5, 1, 0, 0, 0]), (family(5), [0, 0, 2, 2, 0, 2]),
        )

    def test_refusals(self):
        two = [born(1), born(2)]
        self.check_refused(two, adopt(3, 1), -10)
        self.check_refused(two + [assemble(1, 0, 2)], adopt(1, 2), -7, [split(2, 5), adopt(5, 1), assemble(5, 0, 9)])
        self.check_refused(two, adopt(1, 3), -6)
        self.check_refused(two, adopt(1, 1), -4)
        self.check_refused(two + [leave(2)], adopt(1, 2), -6)

    def test_the_refusal_told_first(self):
        waits = [born(1), assemble(1, 0, 2)]
        self.check_refused(waits, adopt(1, 0), -1)
        self.check_refused(waits, adopt(5, 0), -1)
        self.check_refused(waits, adopt(0, 1), -1)
        self.check_refused(waits, adopt(5, 9), -10)
        self.check_refused(waits, adopt(1, 9), -7)
        self.check_refused(waits, adopt(1, 1), -7)

    def test_edges_of_the_ranges(self):
        two = [born(1), born(TOP_ID)]
        self.check_refused(two, adopt(1, HUGE), -6)
        self.check_refused(two, adopt(TOP_ID, 2), -4)
        self.assertEqual(self.last(*two, adopt(TOP_ID, 1)), [0, 0])
        for x in (0, -1, TOP_ID + 1, HUGE, -HUGE):
            self.check_refused(two, adopt(x, 1), -1)
        for f in (0, -1, -HUGE):
            self.check_refused(two, adopt(1, f), -1)


class Leave(Calls):
    def test_whole_list(self):
        self.assertEqual(answers([0, 1, 1, 1, 1, 2, 5, 1, 11, 1, 12, 1, 5, 2, 12, 1]),
                         [2, 0, 0, 2, 0, 0, 2, 0, 0, 1, -10, 6, 0, 0, 2, 1, 0, 1, 2, 0, 0, 1, -6])

    def test_families_go_one_behind_another(self):
        self.check(
            (born(1), NOBODY_OFF), (found(1), NOBODY_OFF), (found(1), NOBODY_OFF), (leave(1), NOBODY_OFF),
            (family(1), [-6]), (family(2), [-6]), (family(3), [-6]),
            (born(1), NOBODY_OFF), (person(1), [4, 0, 0, 0, 0]),
        )

    def test_going_ends_at_a_family_with_another_person(self):
        self.check(
            (born(1), NOBODY_OFF), (found(1), NOBODY_OFF), (split(1, 2), NOBODY_OFF), (found(1), NOBODY_OFF),
            (found(1), NOBODY_OFF), (leave(1), NOBODY_OFF), (family(4), [-6]), (family(3), [-6]),
            (family(2), [1, 0, 2, 1, 0, 1]), (family(1), [0, 0, 1, 0, 1, 1]),
        )

    def test_going_ends_at_a_family_with_another_family(self):
        self.check(
            (born(1), NOBODY_OFF), (split(1, 2), NOBODY_OFF), (found(1), NOBODY_OFF), (found(2), NOBODY_OFF),
            (leave(1), NOBODY_OFF), (family(2), [-6]), (family(1), [0, 0, 2, 0, 1, 1]),
            (leave(2), NOBODY_OFF), (family(3), [-6]), (family(1), [-6]),
        )

    def test_all_forty_go(self):
        calls = [born(1)] + [found(1)] * 39 + [leave(1)] + [family(f) for f in range(1, 41)]
        self.assertEqual(run(*calls)[40:], [[0, 0]] + [[-6]] * 40)

    def test_refusals(self):
        self.check_refused([born(1)], leave(2), -10)
        self.check_refused([born(1), leave(1)], leave(1), -10)
        self.check_refused([born(1), split(1, 2), assemble(1, 0, 2)], leave(1), -7, [assemble(2, 0, 2)])
        self.assertEqual(self.last(born(1), assemble(1, 0, 2), recall(1), leave(1)), off())

    def test_edges_of_the_range(self):
        self.assertEqual(self.last(born(TOP_ID), leave(TOP_ID)), [0, 0])
        self.assertEqual(self.last(born(2), leave(1)), [-10])
        for x in (0, -1, TOP_ID + 1, HUGE, -HUGE):
            self.check_refused([born(1)], leave(x), -1)


if __name__ == "__main__":
    unittest.main()
