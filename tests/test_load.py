"""load and clear: the form of the forest and of the waits, and what's kept then."""

import unittest

from kinfolds.families import answers
from tests.helping import (
    HUGE, OUT_OF_IDS, OUT_OF_NUMBERS, OUT_OF_PLACES, TOP_ID, Calls, assemble, born, chain, clear, counts, family,
    found, gather, inner, leave, load, match, members, muster, off, one, path, person, recall, roots, run, split, told,
    tree, waiting,
)

# What's there ahead of a load; no load of the tests below tells just this.
BEFORE = [born(1), split(1, 2, 3), found(2), muster(3, 5), born(7), assemble(1, 4, 3)]

# Everything that a forest has: families beside and within one another, people ahead of and behind a family.
FIRST = tree(2, 5, one(0, 11), inner(1, tree(7, 3, one(0, 12), one(2, 13))), one(3, 14))
FOREST = FIRST + tree(4, 9, inner(2, tree(5, 2, inner(0, tree(6, 8, one(7, 15))), one(1, 16))), one(8, 17))


class Loads(Calls):
    def check_taken(self, n, forest=(), waits=()):
        """The load is done, and all that's kept then is what was told."""
        call = load(n, forest, waits)
        given = run(*BEFORE, call, told(), waiting())
        self.assertEqual(given[len(BEFORE):], [
            [0, 0], [n, len(forest)] + list(forest) + [len(waits)] + list(waits), [len(waits) // 4] + list(waits),
        ], call)

    def check_bad(self, n, forest=(), waits=()):
        """The load is refused with -2 and changes nothing, be something there or not."""
        self.check_refused(BEFORE, load(n, forest, waits), -2, [waiting(), assemble(2, 4, 3), roots()])
        self.check_refused([], load(n, forest, waits), -2)


class WholeLists(Loads):
    def test_load(self):
        self.assertEqual(
            answers([22, 5, 17, 1, 3, 3, 0, 0, 9, 1, 1, 4, 1, 1, 0, 0, 8, 2, 0, 7, 4, 8, 2, 6, 3, 21, 0, 1, 11, 1]),
            [2, 0, 0,
             24, 5, 17, 1, 3, 3, 0, 0, 9, 1, 1, 4, 1, 1, 0, 0, 8, 2, 0, 7, 4, 8, 2, 6, 3,
             2, 0, 0, 5, 5, 0, 0, 0, 0],
        )

    def test_refused_and_the_call_behind_it_is_read_where_it_stands(self):
        self.assertEqual(answers([22, 5, 2, 1, 1, 0, 24, 22, 0, 1, 24, 2, 24, 24, 24, 22, 1, 0, 4, 1, 2, 3, 4, 24]),
                         [1, -2, 5, 0, 0, 1, 0, 0, 1, -1, 5, 0, 0, 1, 0, 0, 1, -2, 5, 0, 0, 1, 0, 0])

    def test_clear(self):
        self.assertEqual(answers([0, 1, 0, 2, 23, 24, 0, 1, 11, 1]),
                         [2, 0, 0, 2, 0, 0, 2, 0, 0, 5, 0, 0, 1, 0, 0, 2, 0, 0, 5, 1, 0, 0, 0, 0])


class Taken(Loads):
    def test_the_empty_forest(self):
        for n in (1, 2, 1000, HUGE - 1, HUGE):
            self.check_taken(n)

    def test_all_that_a_forest_has(self):
        self.check_taken(8, FOREST)
        self.check_taken(HUGE, FOREST)

    def test_what_was_there_is_gone(self):
        given = run(*BEFORE, load(8, FOREST), *[person(x) for x in (1, 2, 3, 7)], family(1), family(3), counts())
        self.assertEqual(given[len(BEFORE) + 1:], [[-10]] * 4 + [[-6]] * 2 + [[7, 5, 8, 0, 3]])

    def test_what_the_questions_say_of_it(self):
        self.assertEqual(
            run(load(8, FOREST), family(2), family(7), family(4), family(5), family(6), person(13), person(15),
                path(15), members(4))[1:],
            [[0, 0, 5, 2, 1, 4], [2, 1, 3, 2, 0, 2], [0, 0, 9, 1, 1, 3], [4, 2, 2, 1, 1, 2], [5, 0, 8, 1, 0, 1],
             [7, 2, 0, 0, 0], [6, 7, 0, 0, 0], [3, 6, 5, 4], [2, 2, 1, 5, 8, 0, 17]],
        )

    def test_ids_at_the_edges(self):
        self.check_taken(2, tree(1, 2, one(0, TOP_ID), one(1, 1)))

    def test_next_serials_up_to_the_greatest_number(self):
        self.check_taken(2, tree(1, HUGE, one(0, 5)))
        self.check_taken(2, tree(1, HUGE, one(HUGE - 1, 5)))
        self.check_taken(3, tree(1, HUGE, inner(3, tree(2, HUGE, one(4, 5))), one(HUGE - 1, 6)))

    def test_numbers_up_to_just_below_n(self):
        self.check_taken(2, tree(1, 1, one(0, 5)))
        self.check_taken(HUGE, tree(HUGE - 1, 1, one(0, 5)))
        self.check_taken(HUGE, tree(HUGE - 2, 1, inner(0, tree(HUGE - 1, 1, one(0, 5)))))

    def test_numbers_within_need_not_rise_beside_one_another(self):
        self.check_taken(99, tree(1, 2, inner(0, tree(50, 1, one(0, 5))), inner(1, tree(3, 1, one(0, 6)))))
        self.check_taken(99, tree(1, 1, inner(0, tree(50, 1, one(0, 5)))) + tree(2, 1, one(0, 6)))
        self.check_taken(99, tree(1, 1, inner(0, tree(50, 1, one(0, 5)))) + tree(
            2, 1, inner(0, tree(49, 1, inner(0, tree(51, 1, one(0, 6)))))))

    def test_a_family_of_families_alone(self):
        self.check_taken(99, tree(1, 2, inner(0, tree(2, 1, one(0, 5))), inner(1, tree(3, 1, one(0, 6)))))

    def test_depth_40(self):
        self.check_taken(41, chain(40))
        self.check_taken(HUGE, chain(40, 5) + tree(HUGE - 1, 1, one(0, 2)))

    def test_as_long_as_a_list_may_be(self):
        people = [one(serial, TOP_ID - serial) for serial in range(499)]
        self.check_taken(2, tree(1, 499, *people))
        forest = []
        for number in range(1, 251):
            forest += tree(number, 1, one(0, number))
        self.assertEqual(len(forest), 1500)
        self.check_taken(251, forest)

    def test_twice_the_same(self):
        self.assertEqual(run(load(8, FOREST), load(8, FOREST), told())[-1], [8, len(FOREST)] + FOREST + [0])

    def test_the_lists_handed_in_stay_the_same(self):
        calls = load(8, FOREST, [11, 4, 0, 0]) + [1, 12, 1, 99] + [5, 14] + load(8, FOREST[:-1])
        copy = list(calls)
        answers(calls)
        self.assertEqual(calls, copy)


class RangeOfN(Loads):
    def test_out_of_range(self):
        for n in OUT_OF_NUMBERS:
            self.check_refused(BEFORE, load(n), -1)
            self.check_refused(BEFORE, load(n, tree(1, 1, one(0, 5))), -1)

    def test_the_refusal_told_first(self):
        self.check_refused(BEFORE, load(0, [5]), -1)
        self.check_refused(BEFORE, load(-HUGE, FOREST, [1]), -1)

    def test_n_of_1_has_no_room_for_a_family(self):
        self.check_bad(1, tree(1, 1, one(0, 5)))
        self.check_bad(1, tree(0, 1, one(0, 5)))


class NumbersOfFamilies(Loads):
    def test_that_do_not_rise(self):
        self.check_bad(9, tree(2, 1, one(0, 5)) + tree(1, 1, one(0, 6)))
        self.check_bad(9, tree(1, 1, one(0, 4)) + tree(3, 1, one(0, 5)) + tree(2, 1, one(0, 6)))

    def test_a_number_twice(self):
        self.check_bad(9, tree(1, 1, one(0, 5)) + tree(1, 1, one(0, 6)))
        self.check_bad(9, tree(1, 1, inner(0, tree(2, 1, one(0, 5)))) + tree(2, 1, one(0, 6)))
        self.check_bad(9, tree(1, 2, inner(0, tree(2, 1, one(0, 5))), inner(1, tree(2, 1, one(0, 6)))))
        self.check_bad(9, tree(1, 1, inner(0, tree(3, 1, one(0, 5)))) + tree(
            2, 1, inner(0, tree(3, 1, one(0, 6)))))

    def test_one_that_is_n_or_more(self):
        for number in (9, 10, HUGE):
            self.check_bad(9, tree(number, 1, one(0, 5)))
            self.check_bad(9, tree(1, 1, inner(0, tree(number, 1, one(0, 5)))))
        self.check_bad(HUGE, tree(HUGE, 1, one(0, 5)))

    def test_one_below_1(self):
        for number in OUT_OF_NUMBERS:
            self.check_bad(9, tree(number, 1, one(0, 5)))
            self.check_bad(9, tree(1, 1, inner(0, tree(number, 1, one(0, 5)))))

    def test_one_within_that_is_not_greater_than_the_outer_one(self):
        self.check_bad(9, tree(3, 1, inner(0, tree(2, 1, one(0, 5)))))
        self.check_bad(9, tree(3, 1, inner(0, tree(3, 1, one(0, 5)))))
        self.check_bad(9, tree(3, 1, inner(0, tree(5, 1, inner(0, tree(4, 1, one(0, 5)))))))
        self.check_taken(9, tree(3, 1, inner(0, tree(4, 1, inner(0, tree(5, 1, one(0, 5)))))))


class ChildrenAndSerials(Loads):
    def test_no_child(self):
        self.check_bad(9, tree(1, 1))
        self.check_bad(9, tree(1, 0))
        self.check_bad(9, tree(1, 1, one(0, 5)) + tree(2, 1))
        self.check_bad(9, tree(1, 2, one(0, 5), inner(1, tree(2, 1))))
        self.check_bad(9, tree(1, 2, inner(0, tree(2, 1)), one(1, 5)))

    def test_a_count_of_children_below_0(self):
        for count in (-1, -HUGE):
            self.check_bad(9, [1, 1, count])
            self.check_bad(9, [1, 1, count, 0, 0, 5])
            self.check_bad(9, [1, 1, 1, 0, 1, 2, 1, count])

    def test_a_count_that_is_not_that_of_the_children(self):
        for count in (1, 3, 4, 1000, HUGE):
            self.check_bad(9, [1, 2, count, 0, 0, 5, 1, 0, 6])
        self.check_taken(9, [1, 2, 2, 0, 0, 5, 1, 0, 6])

    def test_serials_that_do_not_rise(self):
        self.check_bad(9, tree(1, 5, one(1, 5), one(0, 6)))
        self.check_bad(9, tree(1, 5, one(1, 5), one(1, 6)))
        self.check_bad(9, tree(1, 5, one(0, 5), one(3, 6), one(2, 7)))
        self.check_bad(9, tree(1, 5, one(2, 5), inner(1, tree(2, 1, one(0, 6)))))
        self.check_bad(9, tree(1, 5, inner(2, tree(2, 1, one(0, 6))), one(2, 5)))
        self.check_bad(9, tree(1, 5, inner(2, tree(2, 4, one(3, 6))), one(1, 5)))
        self.check_bad(9, tree(1, 5, inner(2, tree(2, 4, one(3, 6), one(1, 5)))))

    def test_serials_of_another_family_do_not_count(self):
        self.check_taken(9, tree(1, 5, one(3, 5), inner(4, tree(2, 3, one(0, 6), one(2, 7)))))
        self.check_taken(9, tree(1, 5, inner(0, tree(2, 9, one(8, 6))), one(1, 7)))

    def test_a_serial_at_the_next_serial(self):
        self.check_bad(9, tree(1, 5, one(5, 5)))
        self.check_bad(9, tree(1, 5, one(0, 5), one(5, 6)))
        self.check_bad(9, tree(1, 5, one(6, 5)))
        self.check_bad(9, tree(1, 5, inner(5, tree(2, 9, one(0, 5)))))
        self.check_bad(9, tree(1, 5, inner(4, tree(2, 3, one(3, 5)))))
        self.check_bad(9, tree(1, HUGE, one(HUGE, 5)))
        self.check_taken(9, tree(1, 5, one(4, 5)))

    def test_a_serial_below_0(self):
        for serial in (-1, -HUGE):
            self.check_bad(9, tree(1, 5, one(serial, 5)))
            self.check_bad(9, tree(1, 5, one(serial, 5), one(0, 6)))
            self.check_bad(9, tree(1, 5, inner(serial, tree(2, 1, one(0, 5)))))

    def test_a_next_serial_below_1(self):
        for next_serial in (0, -1, -HUGE):
            self.check_bad(9, tree(1, next_serial, one(0, 5)))
            self.check_bad(9, tree(1, next_serial, one(next_serial - 1, 5)))


class Depth(Loads):
    def test_deeper_than_40(self):
        for depth in (41, 42, 100, 290):
            self.check_bad(HUGE, chain(depth))
        self.check_bad(HUGE, tree(1, 1, one(0, 2)) + chain(41, 2))

    def test_the_depth_of_the_deepest_counts(self):
        wide = tree(1, 2, one(0, 2), inner(1, chain(39, 2)))
        self.check_taken(99, wide)
        self.check_bad(99, tree(1, 2, one(0, 2), inner(1, chain(40, 2))))
        both = tree(1, 3, inner(0, chain(39, 2)), one(1, 2), inner(2, tree(50, 1, inner(0, tree(51, 1, one(0, 3))))))
        self.check_taken(99, both)

    def test_as_deep_as_a_list_can_tell_without_an_end(self):
        # Never closed: only a loop comes to its end, and the list ends too early besides.
        forest = []
        for number in range(1, 301):
            forest += [number, 1, 1, 0, 1]
        self.check_bad(HUGE, forest)


class Ids(Loads):
    def test_out_of_range(self):
        for x in OUT_OF_IDS:
            self.check_bad(9, tree(1, 1, one(0, x)))
            self.check_bad(9, tree(1, 2, one(0, 5), inner(1, tree(2, 1, one(0, x)))))

    def test_an_id_twice(self):
        self.check_bad(9, tree(1, 2, one(0, 5), one(1, 5)))
        self.check_bad(9, tree(1, 1, one(0, 5)) + tree(2, 1, one(0, 5)))
        self.check_bad(9, tree(1, 2, one(0, 5), inner(1, tree(2, 1, one(0, 5)))))

    def test_ids_that_lived_before_may_be_told(self):
        self.check_taken(9, tree(1, 2, one(0, 1), one(1, 7)))

    def test_ids_and_numbers_may_be_the_same(self):
        self.check_taken(9, tree(1, 2, one(0, 2), inner(1, tree(2, 1, one(0, 1)))))


class Marks(Loads):
    def test_neither_0_nor_1(self):
        for mark in (2, -1, 3, HUGE, -HUGE):
            self.check_bad(9, [1, 1, 1, 0, mark, 5])
            self.check_bad(9, [1, 1, 1, 0, mark, 2, 1, 1, 0, 0, 5])
            self.check_bad(9, [1, 2, 2, 0, 0, 5, 1, mark, 6])

    def test_the_other_mark(self):
        self.check_bad(9, [1, 1, 1, 0, 1, 5])
        self.check_bad(9, [1, 1, 1, 0, 0, 2, 1, 1, 0, 0, 5])


class LengthOfTheForest(Loads):
    def test_ends_too_early(self):
        for end in range(1, len(FOREST)):
            if end != len(FIRST):
                self.check_bad(8, FOREST[:end])
        self.check_taken(8, FIRST)

    def test_goes_on_too_long(self):
        for more in ([0], [8], [7], [1], [-1], [8, 1], [8, 1, 1], [8, 1, 1, 0], [8, 1, 1, 0, 0], [3, 0, 18],
                     [9, 0, 18], [0, 0, 0]):
            self.check_bad(9, FOREST + more)
        self.check_taken(9, FOREST + tree(8, 1, one(0, 18)))

    def test_one_number_is_missing(self):
        for spot in range(len(FOREST)):
            forest = FOREST[:spot] + FOREST[spot + 1:]
            self.check_bad(8, forest)


# The people 1 to 6 in the family 1, 7 to 9 in the family 2 within it, 10 to 12 in the family 3.
PEOPLE = (
    tree(1, 8, *[one(x, x) for x in range(1, 7)], inner(7, tree(2, 3, one(0, 7), one(1, 8), one(2, 9))))
    + tree(3, 3, one(0, 10), one(1, 11), one(2, 12))
)


class WaitLoads(Loads):
    def taken(self, *waits):
        self.check_taken(4, PEOPLE, [number for wait in waits for number in wait])

    def bad(self, *waits):
        self.check_bad(4, PEOPLE, [number for wait in waits for number in wait])


class Waits(WaitLoads):
    def test_nobody(self):
        self.taken()

    def test_each_kind_in_the_order_told(self):
        self.taken((9, 4, 0, 0), (1, 1, 5, 3), (12, 3, 5, 5), (2, 2, 5, 9), (3, 3, 5, 6), (4, 4, 5, 0))

    def test_one_who_does_not_live(self):
        for x in (13, 7 + TOP_ID, TOP_ID, 0, -1, HUGE, -HUGE):
            self.bad((x, 3, 1, 2))
            self.bad((1, 3, 1, 2), (x, 3, 1, 2))

    def test_one_who_lived_before_only(self):
        self.check_refused([born(1), born(2)], load(9, tree(1, 1, one(0, 1)), [2, 3, 1, 2]), -2)

    def test_nobody_can_wait_in_the_empty_forest(self):
        self.check_bad(9, [], [1, 3, 1, 2])

    def test_one_twice(self):
        self.bad((1, 3, 1, 2), (1, 3, 1, 2))
        self.bad((1, 3, 1, 2), (2, 4, 0, 0), (1, 4, 0, 0))
        self.bad((1, 1, 1, 2), (1, 2, 1, 2))

    def test_a_kind_out_of_its_range(self):
        for kind in (0, 5, 6, -1, HUGE, -HUGE):
            for number in (0, 1, 2):
                self.bad((1, kind, 1, number))

    def test_a_place_out_of_its_range(self):
        for p in OUT_OF_PLACES:
            self.bad((1, 1, p, 2))
            self.bad((1, 2, p, 2))
            self.bad((1, 3, p, 2))
            self.bad((1, 4, p, 0))
        for p in (0, 999):
            self.taken((1, 1, p, 2))
            self.taken((1, 2, p, 2))
            self.taken((1, 3, p, 2))
            self.taken((1, 4, p, 0))

    def test_the_list_ends_too_early_or_goes_on_too_long(self):
        for waits in ([1], [1, 3], [1, 3, 1], [1, 3, 1, 2, 2], [1, 3, 1, 2, 2, 3], [1, 3, 1, 2, 2, 3, 1]):
            self.check_bad(4, PEOPLE, waits)
        self.check_taken(4, PEOPLE, [1, 3, 1, 2, 2, 3, 1, 2])

    def test_a_good_forest_is_not_kept_when_the_waits_are_bad(self):
        given = run(*BEFORE, load(4, PEOPLE, [1]), person(12), counts())
        self.assertEqual(given[len(BEFORE):], [[-2], [-10], [4, 3, 4, 2, 2]])


class WaitsByKind1(WaitLoads):
    def test_numbers(self):
        for number in (1, 2, 999):
            self.taken((1, 1, 5, number))
        for number in (0, -1, 1000, 1001, HUGE, -HUGE):
            self.bad((1, 1, 5, number))

    def test_no_other_of_the_family_at_the_same_place(self):
        self.bad((1, 1, 5, 2), (2, 1, 5, 2))
        self.bad((1, 1, 5, 2), (2, 1, 5, 3))
        self.bad((1, 1, 5, 2), (7, 1, 5, 2), (8, 1, 4, 2), (9, 1, 5, 2))
        self.taken((1, 1, 5, 2), (2, 1, 6, 2), (7, 1, 5, 2), (10, 1, 5, 2))

    def test_other_kinds_at_the_same_place(self):
        self.taken((1, 1, 5, 2), (2, 2, 5, 2), (3, 3, 5, 5), (4, 4, 5, 0))


class WaitsByKind2(WaitLoads):
    def test_numbers(self):
        for number in (2, 3, 999, 1000):
            self.taken((1, 2, 5, number))
        for number in (1, 0, -1, 1001, HUGE, -HUGE):
            self.bad((1, 2, 5, number))

    def test_all_of_the_family_at_the_place_have_the_same_number(self):
        self.bad((1, 2, 5, 8), (2, 2, 5, 9))
        self.bad((1, 2, 5, 8), (2, 2, 5, 8), (3, 2, 5, 7))
        self.taken((1, 2, 5, 8), (2, 2, 6, 9), (7, 2, 5, 7), (10, 2, 5, 6), (3, 2, 5, 8))

    def test_fewer_than_the_number(self):
        self.bad((1, 2, 5, 2), (2, 2, 5, 2))
        self.bad((1, 2, 5, 2), (2, 2, 5, 2), (3, 2, 5, 2))
        self.bad((1, 2, 5, 3), (2, 2, 5, 3), (3, 2, 5, 3))
        self.taken((1, 2, 5, 3), (2, 2, 5, 3))
        self.taken((1, 2, 5, 2), (2, 2, 6, 2), (7, 2, 5, 2), (10, 2, 5, 2))

    def test_other_kinds_at_the_same_place(self):
        self.taken((1, 2, 5, 2), (2, 1, 5, 3), (3, 3, 5, 4), (4, 4, 5, 0))


class WaitsByKind3(WaitLoads):
    def test_numbers(self):
        for number in (0, 1, 5, 999):
            self.taken((1, 3, 5, number))
        for number in (-1, 1000, HUGE, -HUGE):
            self.bad((1, 3, 5, number))

    def test_no_other_of_the_family_who_fits(self):
        self.bad((1, 3, 5, 6), (2, 3, 6, 5))
        self.bad((2, 3, 0, 999), (1, 3, 7, 7), (3, 3, 999, 0))
        self.bad((1, 3, 5, 5), (2, 3, 5, 5))
        self.taken((1, 3, 5, 5))

    def test_others_who_do_not_fit(self):
        self.taken((1, 3, 5, 6), (2, 3, 5, 6), (3, 3, 6, 6), (4, 3, 6, 7), (5, 3, 5, 5), (6, 3, 7, 5))

    def test_those_of_other_families_and_kinds(self):
        self.taken((1, 3, 5, 6), (7, 3, 6, 5), (10, 3, 5, 6))
        self.taken((1, 3, 5, 6), (2, 1, 6, 5), (3, 2, 6, 5))
        self.taken((1, 3, 5, 0), (2, 4, 0, 0))


class WaitsByKind4(WaitLoads):
    def test_numbers(self):
        self.taken((1, 4, 5, 0))
        for number in (1, -1, 5, HUGE, -HUGE):
            self.bad((1, 4, 5, number))

    def test_no_muster_would_be_set_off(self):
        self.bad((7, 4, 5, 0), (8, 4, 5, 0), (9, 4, 5, 0))
        self.bad((10, 4, 5, 0), (1, 3, 1, 2), (12, 4, 5, 0), (11, 4, 5, 0))
        self.check_bad(9, tree(1, 1, one(0, 5)), [5, 4, 0, 0])

    def test_not_all_are_there(self):
        self.taken((7, 4, 5, 0), (9, 4, 5, 0))
        self.taken((7, 4, 5, 0), (8, 4, 6, 0), (9, 4, 5, 0))
        self.taken((7, 4, 5, 0), (8, 3, 5, 0), (9, 4, 5, 0))
        self.taken((7, 4, 5, 0), (8, 4, 5, 0), (10, 4, 5, 0), (11, 4, 5, 0))

    def test_a_family_that_another_stands_in(self):
        self.taken(*[(x, 4, 5, 0) for x in range(1, 7)])
        forest = tree(1, 2, one(0, 5), inner(1, tree(2, 1, one(0, 6))))
        self.check_taken(9, forest, [5, 4, 1, 0])
        self.check_bad(9, forest, [6, 4, 1, 0])
        self.check_bad(9, forest, [5, 4, 1, 0, 6, 4, 1, 0])

    def test_two_musters_at_once(self):
        self.bad((7, 4, 5, 0), (8, 4, 5, 0), (9, 4, 5, 0), (10, 4, 5, 0), (11, 4, 5, 0), (12, 4, 5, 0))


class Cleared(Loads):
    def test_all_is_new(self):
        given = run(*BEFORE, clear(), told(), counts(), waiting(), roots(), person(1), family(1), recall(3), members(1))
        self.assertEqual(given[len(BEFORE):],
                         [[0, 0], [1, 0, 0], [0, 0, 1, 0, 0], [0], [0], [-10], [-6], [-10], [-6]])

    def test_what_comes_behind_is_as_if_it_were_first(self):
        behind = [born(3), split(3, 1, 2), found(1), muster(3, 5), muster(2, 5), leave(1), waiting(), told()]
        for before in ([], BEFORE, [load(HUGE, FOREST)], [clear()], [born(1), leave(1)]):
            self.assertEqual(run(*before, clear(), *behind)[len(before) + 1:], run(*behind))

    def test_of_what_is_new(self):
        self.check((clear(), [0, 0]), (clear(), [0, 0]), (counts(), [0, 0, 1, 0, 0]))

    def test_then_load(self):
        self.assertEqual(run(*BEFORE, clear(), load(8, FOREST), told())[-2:], [[0, 0], [8, len(FOREST)] + FOREST + [0]])

    def test_nothing_of_old_meetings_is_left(self):
        given = run(born(1), split(1, 2), gather(1, 3, 2), match(2, 1, 2), clear(), born(1), split(1, 2),
                    gather(2, 3, 2), match(1, 2, 1), gather(1, 3, 2), recall(1), gather(1, 3, 5))
        self.assertEqual(given[7:], [[1], [1], [-7], [0, 0], off(2, 1)])


if __name__ == "__main__":
    unittest.main()
