"""waiting, at, roots, told, counts."""

import unittest

from kinfolds.families import answers
from tests.helping import (
    HUGE, OUT_OF_PLACES, TOP_ID, Calls, adopt, assemble, at, born, chain, clear, close, counts, family, found, gather,
    inner, leave, load, load_of, match, members, muster, off, one, person, recall, roots, run, split, told, tree,
    waiting,
)

FIVE = [born(1), split(1, 2, 3, 4, 5)]
ALL_KINDS = FIVE + [muster(4, 7), match(2, 7, 3), assemble(5, 7, 9), gather(1, 7, 4)]


class Waiting(Calls):
    def test_whole_list(self):
        self.assertEqual(
            answers([18, 0, 1, 1, 1, 2, 2, 3, 8, 3, 5, 6, 6, 1, 5, 4, 18]),
            [1, 0, 2, 0, 0, 2, 0, 0, 1, 1, 1, 1, 9, 2, 3, 3, 5, 6, 1, 1, 5, 3],
        )

    def test_nobody(self):
        self.assertEqual(run(waiting(), born(1), waiting(), leave(1), waiting()), [[0], [0, 0], [0], [0, 0], [0]])

    def test_each_kind_in_order_of_coming(self):
        self.assertEqual(self.last(*ALL_KINDS, waiting()), [4, 4, 4, 7, 0, 2, 3, 7, 3, 5, 1, 7, 8, 1, 2, 7, 4])

    def test_people_of_several_families_by_coming_alone(self):
        before = [born(9), born(3), split(3, 2), found(2), split(9, 8)]
        self.assertEqual(self.last(*before, match(9, 1, 1), match(2, 1, 1), match(8, 2, 2), match(3, 1, 1), waiting()),
                         [4, 9, 3, 1, 1, 2, 3, 1, 1, 8, 3, 2, 2, 3, 3, 1, 1])

    def test_an_assemblys_number_falls_in_its_place(self):
        before = FIVE + [assemble(2, 0, 4), muster(1, 0), assemble(3, 0, 4)]
        self.assertEqual(run(*before, waiting(), assemble(4, 0, 4), waiting(), assemble(5, 0, 4), waiting())[5:],
                         [[2, 2, 1, 0, 2, 1, 4, 0, 0], [2, 0], [2, 2, 1, 0, 1, 1, 4, 0, 0], [2, 1, 2],
                          [1, 1, 4, 0, 0]])

    def test_without_those_set_off_or_recalled(self):
        before = FIVE + [gather(2, 0, 2), match(1, 0, 5), match(3, 0, 6), gather(4, 0, 2), recall(1)]
        self.assertEqual(self.last(*before, waiting()), [1, 3, 3, 0, 6])

    def test_who_waits_again_comes_last(self):
        before = FIVE + [match(1, 0, 5), match(3, 0, 6), recall(1), match(1, 0, 7)]
        self.assertEqual(self.last(*before, waiting()), [2, 3, 3, 0, 6, 1, 3, 0, 7])

    def test_behind_musters(self):
        before = FIVE + [born(6), split(6, 7, 8), muster(7, 1), match(8, 1, 1), muster(1, 1), leave(6)]
        self.assertEqual(run(*before, waiting(), leave(2), leave(3), leave(4), leave(5), waiting())[8:],
                         [[3, 7, 4, 1, 0, 8, 3, 1, 1, 1, 4, 1, 0], [0, 0], [0, 0], [0, 0], off(1),
                          [2, 7, 4, 1, 0, 8, 3, 1, 1]])

    def test_behind_a_load_and_new_ones_behind_them(self):
        start = load(2, tree(1, 9, *[one(x - 1, x) for x in range(1, 7)]), [6, 3, 1, 2, 2, 2, 0, 3])
        self.assertEqual(run(start, muster(1, 4), waiting(), gather(4, 0, 2), gather(5, 0, 2), waiting())[1:],
                         [[1], [3, 6, 3, 1, 2, 2, 2, 0, 3, 1, 4, 4, 0], [1], off(2, 4, 5),
                          [2, 6, 3, 1, 2, 1, 4, 4, 0]])

    def test_changes_nothing(self):
        self.assertEqual(run(*ALL_KINDS, waiting(), waiting(), told())[-1], self.last(*ALL_KINDS, told()))


class At(Calls):
    def test_whole_list(self):
        self.assertEqual(
            answers([0, 1, 1, 1, 2, 2, 3, 8, 3, 5, 6, 6, 1, 5, 4, 19, 5, 19, 6]),
            [2, 0, 0, 2, 0, 0, 1, 1, 1, 1, 7, 2, 3, 3, 6, 1, 1, 3, 1, 0],
        )

    def test_several_kinds_at_one_place_in_order_of_coming(self):
        self.assertEqual(run(*ALL_KINDS, at(7), at(3), at(4))[len(ALL_KINDS):],
                         [[4, 4, 4, 0, 2, 3, 3, 5, 1, 8, 1, 2, 4], [0], [0]])

    def test_several_places_and_families(self):
        before = FIVE + [born(9), split(9, 8), match(9, 4, 5), muster(3, 5), match(1, 4, 5), gather(2, 5, 2),
                         assemble(8, 4, 3)]
        self.assertEqual(run(*before, at(4), at(5), at(6))[len(before):],
                         [[3, 9, 3, 5, 1, 3, 5, 8, 1, 2], [2, 3, 4, 0, 2, 2, 2], [0]])

    def test_a_match_waits_at_its_place_not_at_the_other(self):
        self.assertEqual(run(*FIVE, match(1, 3, 9), at(9), at(3))[3:], [[0], [1, 1, 3, 9]])

    def test_without_those_set_off_or_recalled(self):
        before = FIVE + [gather(1, 0, 2), muster(2, 0), match(3, 0, 0), gather(4, 0, 2), recall(2)]
        self.assertEqual(self.last(*before, at(0)), [1, 3, 3, 0])

    def test_edges_of_the_range(self):
        before = FIVE + [match(1, 0, 999), match(2, 999, 1)]
        self.assertEqual(run(*before, at(0), at(999), at(998))[4:], [[1, 1, 3, 999], [1, 2, 3, 1], [0]])
        self.assertEqual(run(at(0), at(999)), [[0], [0]])
        for p in OUT_OF_PLACES:
            self.check_refused(before, at(p), -1)

    def test_changes_nothing(self):
        self.assertEqual(run(*ALL_KINDS, at(7), at(7), told())[-1], self.last(*ALL_KINDS, told()))


class Roots(Calls):
    def test_whole_list(self):
        self.assertEqual(answers([20, 0, 1, 0, 2, 2, 1, 20]), [1, 0, 2, 0, 0, 2, 0, 0, 2, 0, 0, 3, 2, 1, 2])

    def test_rising_behind_families_that_have_gone(self):
        before = [born(x) for x in (5, 4, 3, 2, 1)]
        self.assertEqual(
            run(*before, roots(), leave(3), roots(), adopt(5, 2), roots(), born(3), roots(), leave(1), leave(2),
                roots(), leave(4), leave(5), leave(3), roots())[5:],
            [[5, 1, 2, 3, 4, 5], [0, 0], [4, 1, 2, 4, 5], [0, 0], [3, 2, 4, 5], [0, 0], [4, 2, 4, 5, 6], [0, 0],
             [0, 0], [2, 2, 6], [0, 0], [0, 0], [0, 0], [0]],
        )

    def test_families_within_are_none(self):
        before = [born(1), split(1, 2), found(1), found(2), found(2), born(9)]
        self.assertEqual(run(*before, roots(), leave(1), roots(), leave(2), roots())[6:],
                         [[2, 1, 5], [0, 0], [2, 1, 5], [0, 0], [1, 5]])

    def test_behind_a_load_where_one_within_has_a_greater_number_than_a_later_one(self):
        forest = tree(2, 1, inner(0, tree(8, 1, one(0, 1)))) + tree(5, 1, one(0, 2)) + tree(9, 1, one(0, 3))
        self.assertEqual(run(load(20, forest), roots(), born(4), roots(), leave(1), roots())[1:],
                         [[3, 2, 5, 9], [0, 0], [4, 2, 5, 9, 20], [0, 0], [3, 5, 9, 20]])

    def test_many(self):
        calls = [born(x) for x in range(140, 0, -1)]
        self.assertEqual(self.last(*calls, roots()), [140] + list(range(1, 141)))


class Told(Calls):
    def test_whole_list(self):
        self.assertEqual(
            answers([21, 0, 1, 1, 1, 2, 2, 3, 2, 2, 8, 3, 5, 6, 21]),
            [3, 1, 0, 0, 2, 0, 0, 2, 0, 0, 2, 0, 0, 1, 1,
             24, 3, 17, 1, 3, 3, 0, 0, 1, 1, 1, 2, 1, 1, 0, 0, 2, 2, 0, 3, 4, 3, 3, 5, 6],
        )

    def test_nothing(self):
        self.check((told(), [1, 0, 0]), (born(1), [0, 0]), (leave(1), [0, 0]), (told(), [2, 0, 0]),
                   (clear(), [0, 0]), (told(), [1, 0, 0]))

    def test_families_with_parent_0_by_rising_numbers(self):
        forest = tree(1, 1, one(0, 7)) + tree(2, 1, one(0, 3)) + tree(3, 1, one(0, 5))
        self.assertEqual(self.last(born(7), born(3), born(5), told()), [4, 18] + forest + [0])
        before = [born(7), born(3), born(5), leave(3), born(2)]
        forest = tree(1, 1, one(0, 7)) + tree(3, 1, one(0, 5)) + tree(4, 1, one(0, 2))
        self.assertEqual(self.last(*before, told()), [5, 18] + forest + [0])

    def test_children_by_rising_serials_behind_found_close_and_adopt(self):
        before = [born(1), split(1, 2, 3), found(1), adopt(2, 2), found(2), adopt(3, 2), adopt(1, 1), born(4)]
        forest = tree(1, 4, inner(0, tree(2, 3, inner(1, tree(3, 1, one(0, 2))), one(2, 3))), one(3, 1))
        other = tree(4, 1, one(0, 4))
        self.assertEqual(self.last(*before, told()), [5, len(forest) + 6] + forest + other + [0])
        forest = tree(1, 4, inner(0, tree(2, 3, one(1, 2), one(2, 3))), one(3, 1))
        self.assertEqual(self.last(*before, close(2), told()), [5, len(forest) + 6] + forest + other + [0])

    def test_next_serials_stay_when_people_go(self):
        before = [born(1), split(1, 2, 3, 4), leave(4), leave(2)]
        self.assertEqual(self.last(*before, told()), [2, 9] + tree(1, 4, one(0, 1), one(2, 3)) + [0])

    def test_waits_in_order_of_coming(self):
        forest = tree(1, 5, *[one(x - 1, x) for x in range(1, 6)])
        self.assertEqual(self.last(*ALL_KINDS, told()),
                         [2, 18] + forest + [16, 4, 4, 7, 0, 2, 3, 7, 3, 5, 1, 7, 8, 1, 2, 7, 4])

    def test_nested_to_depth_40(self):
        forest = chain(40)
        self.assertEqual(len(forest), 39 * 5 + 6)
        self.assertEqual(self.last(born(1), *[found(1)] * 39, told()), [41, 201] + forest + [0])

    def test_changes_nothing(self):
        self.assertEqual(run(*ALL_KINDS, told(), told(), split(3, 8), found(3), born(9), told())[-1],
                         self.last(*ALL_KINDS, split(3, 8), found(3), born(9), told()))


# Ways to come to something; behind each, what's told is loaded again.
WAYS = (
    [],
    [born(1)],
    [born(1), leave(1)],
    FIVE,
    ALL_KINDS,
    [born(1)] + [found(1)] * 39,
    FIVE + [found(2), split(2, 6, 7), found(6), adopt(1, 3), close(7), muster(6, 3), adopt(3, 2), gather(3, 1, 2)],
    FIVE + [born(9), found(9), match(1, 1, 1), match(2, 1, 2), match(3, 2, 3), match(4, 3, 1), found(5), muster(5, 1)],
    FIVE + [muster(1, 2), muster(2, 2), muster(4, 2), muster(5, 3), found(3), split(3, 6), muster(6, 2), muster(3, 9)],
    FIVE + [assemble(1, 0, 1000), gather(2, 0, 1000), match(3, 999, 0), muster(4, 999), assemble(5, 0, 2)],
    [born(TOP_ID), split(TOP_ID, 1), leave(TOP_ID), found(1), born(TOP_ID), muster(1, 0)],
)

BEHIND = [told(), counts(), waiting(), roots(), split(1, 50, 51), found(3), born(60), born(1), muster(3, 2), leave(5),
          muster(50, 7), recall(1), gather(51, 7, 3), gather(60, 7, 1), match(4, 3, 3), adopt(60, 1), person(60),
          family(1), members(1), recall(4), close(3), match(3, 2, 1), leave(3), leave(4), told()]


class ToldThenLoaded(Calls):
    def test_told_then_load_then_told(self):
        for way in WAYS:
            first = self.last(*way, told())
            again = run(*way, told(), load_of(first), told(), clear(), load_of(first), told())
            self.assertEqual(again[len(way):], [first, [0, 0], first, [0, 0], [0, 0], first])

    def test_the_calls_behind_it_answer_as_they_would_have_before(self):
        for way in WAYS:
            plain = run(*way, *BEHIND)[len(way):]
            loading = load_of(self.last(*way, told()))
            self.assertEqual(run(loading, *BEHIND)[1:], plain, way)
            self.assertEqual(run(*way, loading, *BEHIND)[len(way) + 1:], plain, way)
            self.assertEqual(run(born(9), found(9), muster(9, 0), loading, *BEHIND)[4:], plain, way)


class Counts(Calls):
    def test_whole_list(self):
        self.assertEqual(answers([24, 0, 5, 2, 5, 8, 5, 1, 2, 24]),
                         [5, 0, 0, 1, 0, 0, 2, 0, 0, 2, 0, 0, 1, 1, 5, 1, 2, 3, 1, 2])

    def test_nothing(self):
        self.check((counts(), [0, 0, 1, 0, 0]), (born(1), [0, 0]), (counts(), [1, 1, 2, 0, 1]), (leave(1), [0, 0]),
                   (counts(), [0, 0, 2, 0, 0]), (clear(), [0, 0]), (counts(), [0, 0, 1, 0, 0]))

    def test_each_number_by_itself(self):
        self.check((born(1), [0, 0]), (split(1, 2, 3), [0, 0]), (counts(), [3, 1, 2, 0, 1]),
                   (found(2), [0, 0]), (counts(), [3, 2, 3, 0, 2]), (found(2), [0, 0]), (counts(), [3, 3, 4, 0, 3]),
                   (muster(1, 0), [1]), (counts(), [3, 3, 4, 1, 3]), (close(2), [0, 0]), (counts(), [3, 2, 4, 1, 2]),
                   (born(9), [0, 0]), (counts(), [4, 3, 5, 1, 2]), (leave(2), [0, 0]), (counts(), [3, 2, 5, 1, 1]),
                   (leave(3), off(1)), (counts(), [2, 2, 5, 0, 1]))

    def test_the_greatest_depth_is_not_that_of_the_newest(self):
        before = [born(1)] + [found(1)] * 9 + [born(2), found(2)]
        self.assertEqual(run(*before, counts(), leave(1), counts())[12:],
                         [[2, 12, 13, 0, 10], [0, 0], [1, 2, 13, 0, 2]])

    def test_the_absorbed_is_not_counted(self):
        self.assertEqual(self.last(*FIVE, assemble(1, 0, 3), assemble(2, 0, 3), counts()), [4, 1, 2, 1, 1])

    def test_depth_40(self):
        self.assertEqual(self.last(born(1), *[found(1)] * 39, counts()), [1, 40, 41, 0, 40])

    def test_much(self):
        calls = [born(1)]
        for turn in range(15):
            calls.append(split(1, *range(10 + 100 * turn, 110 + 100 * turn)))
        calls += [found(1)] * 39 + [match(x, 0, 1) for x in range(10, 80)]
        self.assertEqual(self.last(*calls, counts()), [1501, 40, 41, 70, 40])

    def test_behind_a_load(self):
        self.assertEqual(run(load(HUGE), counts(), born(1), counts(), born(2), counts())[1:],
                         [[0, 0, HUGE, 0, 0], [0, 0], [1, 1, HUGE + 1, 0, 1], [0, 0], [2, 2, HUGE + 2, 0, 1]])
        forest = chain(40) + tree(70, 5, one(1, 8), one(3, 9))
        self.assertEqual(self.last(load(99, forest, [8, 3, 1, 2, 9, 2, 3, 4]), counts()), [3, 41, 99, 2, 40])

    def test_changes_nothing(self):
        self.assertEqual(run(*ALL_KINDS, counts(), counts(), roots(), told())[-1], self.last(*ALL_KINDS, told()))


if __name__ == "__main__":
    unittest.main()
