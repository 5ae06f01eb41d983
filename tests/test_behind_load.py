"""born to family, the calls at the places 0 to 12, as they act on what a load has put there."""

import unittest

from tests.helping import (
    HUGE, NOBODY_OFF, TOP_ID, Calls, adopt, assemble, born, chain, close, counts, family, found, gather, inner, leave,
    load, match, members, muster, off, one, path, person, recall, roots, run, split, told, tree, waiting,
)

# 1 to 4 in the family 10, with gaps between the serials; 5 and 6 in 30 within it, 7 in 20 within it, 8 in 15 beside.
FOREST = (
    tree(10, 40, one(3, 1), inner(5, tree(30, 9, one(2, 5), one(7, 6))), one(8, 2), inner(20, tree(20, 4, one(3, 7))),
         one(31, 3), one(32, 4))
    + tree(15, 2, one(1, 8))
)
# The same people all in one family.
FLAT = tree(3, 60, *[one(10 * x, x) for x in range(1, 6)])


def start(*waits):
    return load(50, FOREST, [number for wait in waits for number in wait])


def flat(*waits):
    return load(50, FLAT, [number for wait in waits for number in wait])


class ComingAndGoing(Calls):
    def after(self, first, *calls):
        given = run(born(700), first, *calls)
        self.assertEqual(given[1], [0, 0])
        return given[2:]

    def test_born_goes_on_with_the_number_told(self):
        self.assertEqual(self.after(start(), born(9), person(9), born(700), person(700), family(51), counts()),
                         [[0, 0], [50, 0, 0, 0, 0], [0, 0], [51, 0, 0, 0, 0], [0, 0, 1, 1, 0, 1], [10, 6, 52, 0, 2]])

    def test_born_at_the_greatest_number(self):
        self.assertEqual(self.after(load(HUGE), born(1), person(1), family(HUGE), born(2), person(2), roots(), path(2)),
                         [[0, 0], [HUGE, 0, 0, 0, 0], [0, 0, 1, 1, 0, 1], [0, 0], [HUGE + 1, 0, 0, 0, 0],
                          [2, HUGE, HUGE + 1], [1, HUGE + 1]])

    def test_born_refuses_who_was_told(self):
        for x in range(1, 9):
            self.check_refused([start()], born(x), -3)

    def test_split_goes_on_with_the_serial_told(self):
        self.assertEqual(self.after(start(), split(2, 90, 91), person(90), person(91), family(10), split(5, 92),
                                    person(92)),
                         [[0, 0], [10, 40, 0, 0, 0], [10, 41, 0, 0, 0], [0, 0, 42, 6, 2, 9], [0, 0],
                          [30, 9, 0, 0, 0]])

    def test_split_at_the_greatest_serial(self):
        self.assertEqual(self.after(load(2, tree(1, HUGE, one(HUGE - 1, 1))), split(1, 2, 3), person(2), person(3),
                                    family(1), members(1)),
                         [[0, 0], [1, HUGE, 0, 0, 0], [1, HUGE + 1, 0, 0, 0], [0, 0, HUGE + 2, 3, 0, 3],
                          [3, HUGE - 1, 0, 1, HUGE, 0, 2, HUGE + 1, 0, 3]])

    def test_split_refusals(self):
        self.check_refused([start()], split(9, 99), -10)
        self.check_refused([start()], split(1, 8), -3)
        self.check_refused([start((1, 3, 1, 2))], split(1, 99), -7)

    def test_found_goes_on_with_the_number_and_takes_the_serial_told(self):
        self.assertEqual(self.after(start(), found(2), person(2), family(50), members(10), found(6), family(51),
                                    split(6, 90), members(51)),
                         [[0, 0], [50, 0, 0, 0, 0], [10, 8, 1, 1, 0, 1],
                          [6, 3, 0, 1, 5, 1, 30, 8, 1, 50, 20, 1, 20, 31, 0, 3, 32, 0, 4],
                          [0, 0], [30, 7, 1, 1, 0, 1], [0, 0], [2, 0, 0, 6, 1, 0, 90]])

    def test_found_at_depth_40(self):
        self.check_refused([load(HUGE, chain(40))], found(1), -5)
        self.assertEqual(self.after(load(HUGE, chain(39)), found(1), person(1), found(1), close(1), close(1), found(1)),
                         [[0, 0], [HUGE, 0, 0, 0, 0], [-5], [0, 0], [0, 0], [0, 0]])

    def test_found_refuses_one_who_waits(self):
        self.check_refused([start((7, 2, 1, 2))], found(7), -7)

    def test_close_takes_the_serial_that_the_family_had(self):
        self.assertEqual(self.after(start(), close(7), person(7), family(20), members(10)),
                         [[0, 0], [10, 20, 0, 0, 0], [-6],
                          [6, 3, 0, 1, 5, 1, 30, 8, 0, 2, 20, 0, 7, 31, 0, 3, 32, 0, 4]])

    def test_close_refusals(self):
        self.check_refused([start()], close(8), -8)
        self.check_refused([start()], close(5), -8)
        self.check_refused([start((8, 3, 1, 2))], close(8), -7)

    def test_all_forty_close(self):
        self.assertEqual(self.after(load(99, chain(40)), *[close(1)] * 40, told()),
                         [[0, 0]] * 39 + [[-8], [99, 6, 1, 1, 1, 0, 0, 1, 0]])

    def test_adopt(self):
        self.assertEqual(self.after(start(), adopt(8, 30), person(8), family(15), adopt(7, 10), person(7), family(20),
                                    family(10)),
                         [[0, 0], [30, 9, 0, 0, 0], [-6], [0, 0], [10, 40, 0, 0, 0], [-6], [0, 0, 41, 5, 1, 8]])

    def test_adopt_refusals(self):
        self.check_refused([born(1), start()], adopt(1, 1), -6)
        self.check_refused([start()], adopt(1, 50), -6)
        self.check_refused([start()], adopt(7, 20), -4)
        self.check_refused([start((1, 1, 0, 9))], adopt(1, 20), -7)

    def test_adopt_then_muster(self):
        waits = (3, 4, 9, 0), (1, 4, 9, 0), (4, 4, 9, 0), (2, 4, 9, 0)
        self.assertEqual(self.after(start(*waits), adopt(7, 15), adopt(5, 15), adopt(6, 15), waiting(), family(30)),
                         [off(), off(), off(3, 1, 4, 2), [0], [-6]])

    def test_leave(self):
        self.assertEqual(self.after(start(), leave(7), family(20), leave(8), family(15), roots(), counts()),
                         [[0, 0], [-6], [0, 0], [-6], [1, 10], [6, 2, 50, 0, 2]])
        self.assertEqual(self.after(load(99, chain(40)), leave(1), counts()), [[0, 0], [0, 0, 99, 0, 0]])

    def test_leave_then_muster(self):
        self.assertEqual(self.after(start((6, 4, 1, 0)), leave(5), person(6)), [off(6), [30, 7, 0, 0, 0]])
        self.assertEqual(self.after(flat((5, 4, 1, 0), (1, 4, 1, 0), (3, 4, 1, 0)), leave(2), leave(4), waiting()),
                         [off(), off(5, 1, 3), [0]])

    def test_leave_refuses_one_who_waits(self):
        self.check_refused([start((8, 1, 0, 1))], leave(8), -7)


class Meeting(Calls):
    def after(self, first, *calls):
        given = run(born(700), gather(700, 0, 2), first, *calls)
        self.assertEqual(given[2], [0, 0])
        return given[3:]

    def test_assemble(self):
        self.assertEqual(self.after(flat((2, 1, 7, 2)), assemble(1, 7, 1), person(2), assemble(3, 7, 1), person(2),
                                    assemble(4, 7, 2)),
                         [[2, 0], [3, 20, 1, 7, 1], [2, 1, 2], [3, 20, 0, 0, 0], [1]])
        self.assertEqual(self.after(flat((2, 1, 7, 999)), assemble(1, 7, 1), person(2), assemble(3, 8, 1)),
                         [[2, 0], [3, 20, 1, 7, 998], off(3)])
        self.assertEqual(self.after(flat((2, 1, 7, 1)), assemble(1, 7, 5), told()),
                         [[2, 1, 2], [50, 15] + tree(3, 60, *[one(10 * x, x) for x in range(2, 6)]) + [0]])

    def test_assemble_only_within_the_family(self):
        self.assertEqual(self.after(start((1, 1, 7, 1), (7, 1, 7, 2)), assemble(5, 7, 2), assemble(6, 7, 9),
                                    assemble(2, 7, 9)),
                         [[1], [2, 1, 5], [2, 1, 1]])

    def test_gather(self):
        self.assertEqual(self.after(flat((4, 2, 7, 3), (1, 2, 7, 3)), gather(2, 7, 9), waiting()), [off(4, 1, 2), [0]])
        self.assertEqual(self.after(flat((4, 2, 7, 4), (1, 2, 7, 4)), gather(2, 7, 1), person(2), gather(3, 7, 1)),
                         [[1], [3, 20, 2, 7, 4], off(4, 1, 2, 3)])
        self.assertEqual(self.after(flat((4, 2, 7, 1000)), gather(2, 7, 2), person(2)), [[1], [3, 20, 2, 7, 1000]])

    def test_gather_only_within_the_family(self):
        self.assertEqual(self.after(start((1, 2, 7, 2), (7, 2, 7, 2)), gather(5, 7, 2), gather(3, 7, 2)),
                         [[1], off(1, 3)])

    def test_match(self):
        self.assertEqual(self.after(flat((4, 3, 1, 3), (5, 3, 1, 2), (2, 3, 1, 2)), match(1, 2, 1), match(5, 2, 1),
                                    waiting(), match(5, 3, 1)),
                         [off(5, 1), off(2, 5), [1, 4, 3, 1, 3], off(4, 5)])
        self.assertEqual(self.after(flat((4, 3, 6, 6)), match(1, 6, 6), match(1, 6, 6)), [off(4, 1), [1]])

    def test_match_only_within_the_family(self):
        self.assertEqual(self.after(start((1, 3, 0, 999)), match(8, 999, 0), match(7, 999, 0), match(2, 999, 0)),
                         [[1], [1], off(1, 2)])

    def test_muster(self):
        self.assertEqual(self.after(flat((4, 4, 6, 0), (1, 4, 6, 0), (5, 4, 6, 0)), muster(2, 6), muster(3, 6)),
                         [[1], off(4, 1, 5, 2, 3)])
        self.assertEqual(self.after(start((6, 4, 6, 0)), muster(5, 6), muster(7, 6), muster(8, 999)),
                         [off(6, 5), off(7), off(8)])

    def test_muster_not_with_a_family_within(self):
        self.assertEqual(self.after(start((3, 4, 9, 0), (1, 4, 9, 0), (4, 4, 9, 0)), muster(2, 9), leave(7), leave(5),
                                    leave(6)),
                         [[1], off(), off(), off(3, 1, 4, 2)])

    def test_recall(self):
        self.assertEqual(self.after(flat((4, 3, 1, 3), (5, 2, 1, 2), (2, 1, 1, 2)), recall(5), waiting(), recall(5),
                                    assemble(1, 1, 1), recall(2), assemble(3, 1, 1)),
                         [[0, 0], [2, 4, 3, 1, 3, 2, 1, 1, 2], [-8], [2, 0], [0, 0], off(3)])
        self.check_refused([flat((4, 3, 1, 3))], recall(9), -10)
        self.check_refused([flat((4, 3, 1, 3))], recall(1), -8)

    def test_one_who_waits_is_refused(self):
        for wait in ((1, 1, 5, 3), (1, 2, 5, 3), (1, 3, 5, 3), (1, 4, 5, 0)):
            for call in (assemble(1, 5, 1), gather(1, 5, 1), match(1, 3, 5), muster(1, 5), split(1, 99), found(1),
                         close(1), adopt(1, 15), leave(1)):
                self.check_refused([start(wait)], call, -7)

    def test_person_and_family(self):
        self.assertEqual(self.after(start((5, 3, 0, 999), (8, 2, 999, 1000)), person(5), person(8), person(4),
                                    family(10), family(15), family(30), family(20), person(700), family(1)),
                         [[30, 2, 3, 0, 999], [15, 1, 2, 999, 1000], [10, 32, 0, 0, 0], [0, 0, 40, 4, 2, 7],
                          [0, 0, 2, 1, 0, 1], [10, 5, 9, 2, 0, 2], [10, 20, 4, 1, 0, 1], [-10], [-6]])

    def test_who_waited_before_waits_no_more(self):
        given = run(born(1), split(1, 2), gather(1, 7, 2), flat(), gather(2, 7, 3), person(1), born(TOP_ID), waiting())
        self.assertEqual(given[4:], [[1], [3, 10, 0, 0, 0], NOBODY_OFF, [1, 2, 2, 7, 3]])


if __name__ == "__main__":
    unittest.main()
