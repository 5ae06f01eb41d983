"""members, path, kin, line, alike."""

import unittest

from kinfolds.families import answers
from tests.helping import (
    HUGE, OUT_OF_IDS, OUT_OF_NUMBERS, TOP_ID, Calls, adopt, alike, assemble, born, chain, clear, close, counts, found,
    gather, inner, kin, leave, line, load, match, members, muster, one, path, person, recall, run, split, told, tree,
)

THREE = [born(1), split(1, 2, 3)]
DEEP = [born(1)] + [found(1)] * 39

# 1 holds 1, the family 2 (with 2, 5 and the family 4 of 6 and 7) and the family 3 (of 3); 5 stands beside it, with 8.
WIDE = THREE + [found(2), split(2, 5, 6), found(3), found(6), split(6, 7), born(8)]


def changes_nothing(case, question):
    """The question is answered alike twice, and nobody can tell that it was asked."""
    before = WIDE + [muster(5, 3), gather(3, 3, 4)]
    behind = [told(), counts(), split(1, 20), found(1), born(21), told()]
    given = run(*before, question, question, *behind)
    case.assertEqual(given[len(before)], given[len(before) + 1])
    case.assertEqual(given[len(before) + 2:], run(*before, *behind)[len(before):])


class Members(Calls):
    def test_whole_list(self):
        self.assertEqual(
            answers([0, 1, 1, 1, 2, 2, 3, 2, 2, 13, 1, 13, 2, 13, 3]),
            [2, 0, 0, 2, 0, 0, 2, 0, 0, 10, 3, 0, 0, 1, 1, 1, 2, 2, 0, 3, 4, 1, 0, 0, 2, 1, -6],
        )

    def test_by_rising_serials_not_by_ids(self):
        self.assertEqual(self.last(born(9), split(9, 4, 7), split(4, 1), members(1)),
                         [4, 0, 0, 9, 1, 0, 4, 2, 0, 7, 3, 0, 1])

    def test_behind_found_adopt_and_close(self):
        self.assertEqual(
            run(*THREE, found(1), members(1), adopt(3, 2), members(1), members(2), adopt(3, 1), members(1), members(2),
                close(1), members(1), found(3), members(1), members(3))[3:],
            [[3, 0, 1, 2, 1, 0, 2, 2, 0, 3],
             [0, 0], [2, 0, 1, 2, 1, 0, 2], [2, 0, 0, 1, 1, 0, 3],
             [0, 0], [3, 0, 1, 2, 1, 0, 2, 3, 0, 3], [1, 0, 0, 1],
             [0, 0], [3, 0, 0, 1, 1, 0, 2, 3, 0, 3],
             [0, 0], [3, 0, 0, 1, 1, 0, 2, 3, 1, 3], [1, 0, 0, 3]],
        )

    def test_a_family_closed_by_another_than_its_founder(self):
        before = THREE + [found(2), split(2, 4), leave(2), adopt(1, 2), leave(4), close(1)]
        self.assertEqual(self.last(*before, members(1)), [2, 1, 0, 1, 2, 0, 3])

    def test_without_those_who_went(self):
        self.assertEqual(self.last(*THREE, leave(2), members(1)), [2, 0, 0, 1, 2, 0, 3])
        self.assertEqual(self.last(*THREE, found(2), found(2), leave(2), members(1)), [2, 0, 0, 1, 2, 0, 3])
        self.assertEqual(self.last(*THREE, assemble(3, 0, 9), assemble(1, 0, 9), members(1)), [2, 1, 0, 2, 2, 0, 3])

    def test_only_its_own_children(self):
        self.assertEqual(run(*WIDE, *[members(f) for f in range(1, 6)])[len(WIDE):],
                         [[3, 0, 0, 1, 1, 1, 2, 2, 1, 3], [3, 0, 0, 2, 1, 0, 5, 2, 1, 4], [1, 0, 0, 3],
                          [2, 0, 0, 6, 1, 0, 7], [1, 0, 0, 8]])

    def test_those_who_wait_are_children_too(self):
        self.assertEqual(self.last(*THREE, muster(1, 5), match(3, 1, 2), members(1)), [3, 0, 0, 1, 1, 0, 2, 2, 0, 3])

    def test_at_depth_40(self):
        self.assertEqual(run(*DEEP, members(39), members(40), members(41))[40:],
                         [[1, 0, 1, 40], [1, 0, 0, 1], [-6]])

    def test_behind_a_load(self):
        forest = tree(3, 50, one(4, 7), inner(9, tree(30, HUGE, one(HUGE - 1, 2))), one(49, 1))
        self.assertEqual(run(load(31, forest), members(3), members(30), members(4))[1:],
                         [[3, 4, 0, 7, 9, 1, 30, 49, 0, 1], [1, HUGE - 1, 0, 2], [-6]])

    def test_refusals(self):
        self.check_refused([born(1)], members(2), -6)
        self.check_refused([], members(1), -6)
        self.check_refused([born(1), leave(1)], members(1), -6)
        self.check_refused([born(1), found(1), close(1)], members(2), -6)
        self.check_refused([born(1), clear()], members(1), -6)

    def test_edges_of_the_range(self):
        self.check_refused([born(1)], members(HUGE), -6)
        self.assertEqual(self.last(load(HUGE), born(3), members(HUGE)), [1, 0, 0, 3])
        for f in OUT_OF_NUMBERS:
            self.check_refused([born(1)], members(f), -1)

    def test_changes_nothing(self):
        changes_nothing(self, members(1))


class Path(Calls):
    def test_whole_list(self):
        self.assertEqual(answers([0, 1, 14, 1, 2, 1, 14, 1, 14, 2]), [2, 0, 0, 2, 1, 1, 2, 0, 0, 3, 2, 2, 1, 1, -10])

    def test_from_its_family_outwards(self):
        self.assertEqual(run(*WIDE, *[path(x) for x in range(1, 9)])[len(WIDE):],
                         [[1, 1], [2, 2, 1], [2, 3, 1], [-10], [2, 2, 1], [3, 4, 2, 1], [3, 4, 2, 1], [1, 5]])

    def test_behind_adopt_and_close(self):
        self.assertEqual(run(*WIDE, adopt(1, 4), path(1), adopt(1, 5), path(1), close(3), path(3))[len(WIDE):],
                         [[0, 0], [3, 4, 2, 1], [0, 0], [1, 5], [0, 0], [1, 1]])

    def test_one_who_waits(self):
        self.assertEqual(self.last(*WIDE, gather(6, 0, 2), path(6)), [3, 4, 2, 1])

    def test_at_depth_40(self):
        self.assertEqual(self.last(*DEEP, path(1)), [40] + list(range(40, 0, -1)))
        self.assertEqual(self.last(load(1000, chain(40, 600)), path(1)), [40] + list(range(639, 599, -1)))

    def test_refusals(self):
        self.check_refused([born(1)], path(2), -10)
        self.check_refused([], path(1), -10)
        self.check_refused([born(1), leave(1)], path(1), -10)

    def test_edges_of_the_range(self):
        self.assertEqual(self.last(born(TOP_ID), path(TOP_ID)), [1, 1])
        for x in OUT_OF_IDS:
            self.check_refused([born(1)], path(x), -1)

    def test_changes_nothing(self):
        changes_nothing(self, path(6))


class Kin(Calls):
    def test_whole_list(self):
        self.assertEqual(answers([0, 1, 1, 1, 1, 2, 0, 3, 2, 2, 15, 1, 2, 15, 1, 3, 15, 2, 2, 15, 1, 4]),
                         [2, 0, 0, 2, 0, 0, 2, 0, 0, 2, 0, 0, 1, 1, 1, 0, 1, 3, 1, -10])

    def test_in_one_family(self):
        self.assertEqual(run(*THREE, kin(1, 2), kin(3, 1), kin(2, 2))[2:], [[1], [1], [1]])

    def test_all_pairs(self):
        # By families: 1 in the family 1, 2 and 5 in 2, 6 and 7 in 4 (within 2), 3 in 3, 8 alone in 5.
        wanted = {
            (1, 1): 1, (1, 2): 1, (1, 5): 1, (1, 6): 1, (1, 7): 1, (1, 3): 1, (1, 8): 0,
            (2, 2): 2, (2, 5): 2, (2, 6): 2, (2, 7): 2, (2, 3): 1, (2, 8): 0,
            (5, 5): 2, (5, 6): 2, (5, 7): 2, (5, 3): 1, (5, 8): 0,
            (6, 6): 4, (6, 7): 4, (6, 3): 1, (6, 8): 0, (7, 7): 4, (7, 3): 1, (7, 8): 0,
            (3, 3): 3, (3, 8): 0, (8, 8): 5,
        }
        for (x, y), answer in wanted.items():
            self.assertEqual(run(*WIDE, kin(x, y), kin(y, x))[len(WIDE):], [[answer], [answer]], (x, y))

    def test_side_by_side_within_one(self):
        before = THREE + [found(2), found(3)]
        self.assertEqual(run(*before, kin(2, 3), kin(1, 3))[4:], [[1], [1]])
        before = [born(1), found(1), split(1, 2, 3), found(2), found(3), found(3)]
        self.assertEqual(run(*before, kin(2, 3), kin(3, 1), kin(3, 3))[6:], [[2], [2], [5]])

    def test_behind_adopt(self):
        self.assertEqual(run(*WIDE, adopt(8, 4), kin(8, 7), kin(8, 5), kin(8, 3), adopt(7, 3), kin(8, 7))[len(WIDE):],
                         [[0, 0], [4], [2], [1], [0, 0], [1]])

    def test_nested_to_depth_40(self):
        before = [born(1), split(1, 2, 3)] + [found(1)] * 39 + [split(1, 4), adopt(2, 20)]
        self.assertEqual(run(*before, kin(1, 4), kin(4, 2), kin(2, 1), kin(3, 1), kin(1, 1), kin(2, 3))[43:],
                         [[40], [20], [20], [1], [40], [1]])

    def test_a_deep_tree_and_another(self):
        forest = chain(40) + tree(100, 1, inner(0, tree(101, 1, one(0, 2))))
        self.assertEqual(run(load(200, forest), kin(1, 2), kin(2, 1), kin(2, 2))[1:], [[0], [0], [101]])

    def test_refusals(self):
        two = [born(1), born(2)]
        self.check_refused(two, kin(1, 3), -10)
        self.check_refused(two, kin(3, 1), -10)
        self.check_refused(two, kin(3, 3), -10)
        self.check_refused(two, kin(3, 4), -10)
        self.check_refused(two + [leave(2)], kin(1, 2), -10)

    def test_the_refusal_told_first(self):
        self.check_refused([born(1)], kin(3, 0), -1)
        self.check_refused([born(1)], kin(TOP_ID + 1, 3), -1)

    def test_edges_of_the_ranges(self):
        self.assertEqual(self.last(born(TOP_ID), split(TOP_ID, 1), kin(TOP_ID, 1)), [1])
        for x in OUT_OF_IDS:
            self.check_refused([born(1)], kin(x, 1), -1)
            self.check_refused([born(1)], kin(1, x), -1)
            self.check_refused([born(1)], kin(x, x), -1)

    def test_changes_nothing(self):
        changes_nothing(self, kin(6, 3))


class Line(Calls):
    def test_whole_list(self):
        self.assertEqual(
            answers([0, 1, 1, 1, 2, 2, 3, 2, 2, 1, 2, 1, 9, 16, 1, 16, 2, 16, 3]),
            [2, 0, 0, 2, 0, 0, 2, 0, 0, 2, 0, 0, 5, 4, 1, 2, 9, 3, 3, 2, 2, 9, 1, -6],
        )

    def test_families_are_gone_through_where_they_stand(self):
        self.assertEqual(run(*WIDE, *[line(f) for f in range(1, 6)])[len(WIDE):],
                         [[6, 1, 2, 5, 6, 7, 3], [4, 2, 5, 6, 7], [1, 3], [2, 6, 7], [1, 8]])

    def test_a_person_behind_a_family_in_the_same_one(self):
        before = [born(5), split(5, 4, 3), found(4), split(4, 2), found(4), split(4, 9)]
        self.assertEqual(run(*before, line(1), line(2), line(3))[6:], [[5, 5, 4, 9, 2, 3], [3, 4, 9, 2], [2, 4, 9]])

    def test_behind_found_close_and_adopt(self):
        self.assertEqual(
            run(*THREE, found(1), line(1), adopt(2, 2), line(1), adopt(1, 1), line(1), close(2), line(1), split(2, 8),
                found(3), adopt(8, 3), line(1))[2:],
            [[0, 0], [3, 1, 2, 3], [0, 0], [3, 1, 2, 3], [0, 0], [3, 2, 3, 1], [0, 0], [3, 2, 3, 1], [0, 0], [0, 0],
             [0, 0], [4, 2, 3, 8, 1]],
        )

    def test_those_who_wait_are_held_too(self):
        self.assertEqual(self.last(*THREE, muster(2, 0), match(1, 0, 0), line(1)), [3, 1, 2, 3])

    def test_at_depth_40(self):
        before = [born(1), split(1, 2)] + [found(1), split(1, *[10])] + [found(1)] * 38
        self.assertEqual(run(*before, line(1), line(2), line(3), line(40), line(41))[42:],
                         [[3, 1, 10, 2], [2, 1, 10], [1, 1], [1, 1], [-6]])

    def test_at_each_of_forty_depths_one_behind_the_family_within(self):
        calls = [born(1)]
        for depth in range(2, 41):
            calls += [split(1, 100 + depth), found(1)]
        # The outermost was split off first, and its serial is behind that of the family within.
        self.assertEqual(self.last(*calls, line(1)), [40, 1] + [100 + depth for depth in range(40, 1, -1)])

    def test_a_long_line(self):
        calls = [born(1)]
        for turn in range(15):
            calls.append(split(1, *range(5000 - 100 * turn, 5100 - 100 * turn)))
        wanted = [1]
        for turn in range(15):
            wanted += range(5000 - 100 * turn, 5100 - 100 * turn)
        self.assertEqual(self.last(*calls, found(1), line(1)), [1501] + wanted)

    def test_refusals(self):
        self.check_refused([born(1)], line(2), -6)
        self.check_refused([], line(1), -6)
        self.check_refused([born(1), found(1), leave(1)], line(1), -6)

    def test_edges_of_the_range(self):
        self.check_refused([born(1)], line(HUGE), -6)
        self.assertEqual(self.last(load(HUGE), born(3), line(HUGE)), [1, 3])
        for f in OUT_OF_NUMBERS:
            self.check_refused([born(1)], line(f), -1)

    def test_changes_nothing(self):
        changes_nothing(self, line(1))


def shaped(shape, numbers=None, ids=None):
    """A family as the forest tells it: of the shape, each 0 is a person, each list a family."""
    numbers = iter(range(1, 1000)) if numbers is None else numbers
    ids = iter(range(1, 1000)) if ids is None else ids
    number = next(numbers)
    children = []
    for serial, child in enumerate(shape):
        children.append(one(serial, next(ids)) if child == 0 else inner(serial, shaped(child, numbers, ids)))
    return tree(number, len(shape), *children)


class Alike(Calls):
    def check_shapes(self, first, second, wanted):
        """The second family is given numbers from 501 on, and ids from 501 on."""
        forest = shaped(first) + shaped(second, iter(range(501, 999)), iter(range(501, 999)))
        self.assertEqual(run(load(1000, forest), alike(1, 501), alike(501, 1)), [[0, 0], [wanted], [wanted]],
                         (first, second))

    def test_whole_list(self):
        self.assertEqual(
            answers([0, 1, 0, 2, 17, 1, 2, 1, 2, 1, 3, 17, 1, 2, 17, 2, 2, 17, 1, 3]),
            [2, 0, 0, 2, 0, 0, 1, 1, 2, 0, 0, 1, 0, 1, 1, 1, -6],
        )

    def test_the_same_family_twice(self):
        self.assertEqual(run(*WIDE, *[alike(f, f) for f in range(1, 7)])[len(WIDE):], [[1]] * 5 + [[-6]])

    def test_as_many_people(self):
        self.check_shapes([0], [0], 1)
        self.check_shapes([0, 0, 0], [0, 0, 0], 1)
        self.check_shapes([0, 0], [0, 0, 0], 0)

    def test_a_family_does_not_go_with_a_person(self):
        self.check_shapes([0], [[0]], 0)
        self.check_shapes([0, [0]], [0, 0], 0)
        self.check_shapes([0, [0]], [[0], [0]], 0)

    def test_children_in_another_order(self):
        self.check_shapes([0, [0, 0], 0, [0]], [[0], 0, 0, [0, 0]], 1)
        self.check_shapes([[0], [0, 0], [0, 0, 0]], [[0, 0, 0], [0], [0, 0]], 1)
        self.check_shapes([[[0], 0, [0, 0]], 0], [0, [[0, 0], [0], 0]], 1)

    def test_as_many_children_but_another_shape_within(self):
        self.check_shapes([0, [0, 0]], [0, [0]], 0)
        self.check_shapes([[0, 0], [0, 0]], [[0], [0, 0, 0]], 0)
        self.check_shapes([[0, [0]], [0, 0]], [[0, 0], [0, 0]], 0)
        self.check_shapes([[0, [0]], [0, 0]], [[0, 0], [[0], 0]], 1)

    def test_as_many_of_each_shape(self):
        self.check_shapes([[0], [0], [0, 0]], [[0], [0, 0], [0, 0]], 0)
        self.check_shapes([[0], [0], [0, 0]], [[0, 0], [0], [0]], 1)
        self.check_shapes([[0]], [[0], [0]], 0)

    def test_as_many_people_and_families_held_at_each_depth(self):
        self.check_shapes([[[0], [0]], [0]], [[[0]], [[0]]], 0)
        self.check_shapes([[[0, 0]], [0, [0]]], [[[0]], [0, [0, 0]]], 0)
        self.check_shapes([[[0], [0, 0]], [[0]]], [[[0], [0]], [[0, 0]]], 0)

    def test_a_family_within_the_other(self):
        before = THREE + [found(2), split(2, 4)]
        self.assertEqual(run(*before, alike(1, 2), alike(2, 1), leave(4), alike(1, 2))[4:], [[0], [0], [0, 0], [0]])
        self.assertEqual(run(*DEEP, alike(39, 40), alike(1, 40), alike(1, 2))[40:], [[0], [0], [0]])

    def test_two_within_the_same_one(self):
        before = THREE + [found(2), found(3)]
        self.assertEqual(run(*before, alike(2, 3), split(3, 9), alike(2, 3), split(2, 8), alike(3, 2))[4:],
                         [[1], [0, 0], [0], [0, 0], [1]])

    def test_ids_numbers_serials_and_waits_do_not_matter(self):
        forest = tree(3, 90, one(4, 7), inner(9, tree(30, 2, one(1, 2)))) + tree(
            5, 3, inner(0, tree(6, 70, one(60, 11))), one(2, TOP_ID))
        self.assertEqual(run(load(31, forest, [7, 4, 5, 0, 11, 1, 0, 7]), alike(3, 5), alike(30, 6), alike(3, 6))[1:],
                         [[1], [1], [0]])

    def test_depth_40(self):
        shape = [0]
        other = [0, 0]
        for depth in range(39):
            shape = [shape]
            other = [other]
        self.check_shapes(shape, shape, 1)
        self.check_shapes(shape, other, 0)
        self.check_shapes(shape, shape[0], 0)

    def test_many_that_are_alike_in_part(self):
        # Halves that are told alike again and again must not be gone through once for each way there.
        shape = [0]
        for depth in range(5):
            shape = [shape, shape]
        self.check_shapes(shape, shape, 1)
        self.check_shapes(shape, shape[:1] + [[0]], 0)

    def test_refusals(self):
        two = [born(1), born(2)]
        self.check_refused(two, alike(1, 3), -6)
        self.check_refused(two, alike(3, 1), -6)
        self.check_refused(two, alike(3, 3), -6)
        self.check_refused(two, alike(3, 4), -6)
        self.check_refused(two + [leave(2)], alike(1, 2), -6)

    def test_the_refusal_told_first(self):
        self.check_refused([born(1)], alike(3, 0), -1)
        self.check_refused([born(1)], alike(-1, 3), -1)

    def test_edges_of_the_ranges(self):
        self.check_refused([born(1)], alike(1, HUGE), -6)
        self.assertEqual(self.last(load(HUGE - 1), born(3), born(4), alike(HUGE - 1, HUGE)), [1])
        for f in OUT_OF_NUMBERS:
            self.check_refused([born(1)], alike(f, 1), -1)
            self.check_refused([born(1)], alike(1, f), -1)
            self.check_refused([born(1)], alike(f, f), -1)

    def test_changes_nothing(self):
        changes_nothing(self, alike(1, 2))


class AskedBehindMeetings(Calls):
    def test_the_absorbed_is_in_no_answer(self):
        before = THREE + [found(3), split(3, 4, 5), assemble(4, 0, 3), assemble(3, 0, 3)]
        self.assertEqual(run(*before, members(2), line(1), kin(4, 3), path(3), person(4), recall(4), line(2))[6:],
                         [[2, 1, 0, 4, 2, 0, 5], [4, 1, 2, 4, 5], [-10], [-10], [2, 1, 1, 0, 1], [0, 0], [2, 4, 5]])


if __name__ == "__main__":
    unittest.main()
