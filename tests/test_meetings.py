"""assemble, gather, match, recall."""

import unittest

from kinfolds.families import answers
from tests.helping import (
    HUGE, NOBODY_OFF, OUT_OF_IDS, OUT_OF_PLACES, TOP_ID, Calls, adopt, assemble, born, close, family, found, gather,
    leave, match, muster, off, person, recall, run, split,
)

FIVE = [born(1), split(1, 2, 3, 4, 5)]
OUT_OF_COUNTS = (0, -1, 1001, HUGE, -HUGE)


class Assemble(Calls):
    def test_whole_list(self):
        self.assertEqual(
            answers([0, 1, 1, 1, 2, 2, 3, 6, 1, 5, 3, 6, 2, 5, 9, 11, 1, 6, 3, 5, 1, 11, 1, 11, 2]),
            [2, 0, 0, 2, 0, 0, 1, 1, 2, 2, 0, 5, 1, 0, 1, 5, 1, 3, 2, 1, 1, 5, 1, 0, 0, 0, 0, 1, -10],
        )

    def test_n_of_1_sets_off_at_once(self):
        self.assertEqual(run(*FIVE, assemble(2, 0, 1), person(2))[2:], [off(2), [1, 1, 0, 0, 0]])

    def test_n_of_2_and_more(self):
        self.assertEqual(run(*FIVE, assemble(2, 0, 2), person(2), assemble(3, 0, 2))[2:],
                         [[1], [1, 1, 1, 0, 1], [2, 1, 2]])
        self.assertEqual(run(*FIVE, assemble(2, 0, 1000), person(2))[2:], [[1], [1, 1, 1, 0, 999]])

    def test_the_first_ones_number_counts_and_n_does_not(self):
        self.assertEqual(
            run(*FIVE, assemble(4, 999, 4), assemble(5, 999, 1), person(4), assemble(1, 999, 1000), person(4),
                assemble(3, 999, 2), person(4), person(3), family(1))[2:],
            [[1], [2, 0], [1, 3, 1, 999, 2], [2, 0], [1, 3, 1, 999, 1], [2, 1, 4], [1, 3, 0, 0, 0], [-10],
             [0, 0, 5, 2, 0, 2]],
        )

    def test_the_absorbed_may_live_again(self):
        self.assertEqual(run(*FIVE, assemble(1, 0, 3), assemble(2, 0, 3), born(2), person(2))[4:],
                         [[0, 0], [2, 0, 0, 0, 0]])

    def test_other_places_kinds_and_families_do_not_meet(self):
        before = FIVE + [assemble(1, 7, 2), born(6), split(6, 7)]
        self.assertEqual(self.last(*before, assemble(2, 8, 2)), [1])
        self.assertEqual(self.last(*before, gather(2, 7, 2)), [1])
        self.assertEqual(self.last(*before, assemble(6, 7, 2)), [1])
        self.assertEqual(self.last(*before, assemble(6, 7, 1)), off(6))
        self.assertEqual(self.last(*before, assemble(6, 7, 2), assemble(7, 7, 2)), [2, 1, 6])
        self.assertEqual(self.last(*before, assemble(6, 7, 2), assemble(2, 7, 2)), [2, 1, 1])
        self.assertEqual(self.last(*before, found(2), assemble(2, 7, 2)), [1])
        for other in (gather(2, 7, 5), match(2, 7, 7), muster(2, 7)):
            self.assertEqual(self.last(*FIVE, other, assemble(1, 7, 2)), [1])

    def test_a_family_within_is_another_family(self):
        before = FIVE + [assemble(1, 7, 2), found(2), split(2, 6)]
        self.assertEqual(run(*before, assemble(2, 7, 3), assemble(6, 7, 3), person(1), person(2))[5:],
                         [[1], [2, 0], [1, 0, 1, 7, 1], [2, 0, 1, 7, 1]])

    def test_who_is_set_off_may_act_again(self):
        self.assertEqual(run(*FIVE, assemble(1, 0, 2), assemble(2, 0, 2), assemble(1, 0, 2), assemble(3, 0, 1))[4:],
                         [[1], [2, 1, 1]])

    def test_refusals(self):
        self.check_refused(FIVE, assemble(6, 0, 1), -10)
        self.check_refused(FIVE + [assemble(1, 0, 3)], assemble(1, 0, 1), -7, [assemble(2, 0, 9), assemble(3, 0, 9)])
        self.check_refused(FIVE + [muster(1, 0)], assemble(1, 3, 2), -7)
        self.check_refused(FIVE + [assemble(1, 0, 3)], assemble(6, 0, 1), -10, [assemble(2, 0, 9)])

    def test_the_refusal_told_first(self):
        for call in (assemble(6, 0, 0), assemble(6, 1000, 1), assemble(1, -1, 2), assemble(1, 0, 1001)):
            self.check_refused(FIVE + [assemble(1, 0, 3)], call, -1)

    def test_n_out_of_range_is_refused_though_it_does_not_matter(self):
        self.check_refused(FIVE + [assemble(1, 0, 2)], assemble(2, 0, 0), -1)

    def test_edges_of_the_ranges(self):
        self.assertEqual(self.last(born(TOP_ID), assemble(TOP_ID, 0, 1)), off(TOP_ID))
        self.assertEqual(self.last(born(TOP_ID), assemble(TOP_ID, 999, 1000)), [1])
        for x in OUT_OF_IDS:
            self.check_refused(FIVE, assemble(x, 0, 2), -1)
        for p in OUT_OF_PLACES:
            self.check_refused(FIVE, assemble(1, p, 2), -1)
        for n in OUT_OF_COUNTS:
            self.check_refused(FIVE, assemble(1, 0, n), -1)


class Gather(Calls):
    def test_whole_list(self):
        self.assertEqual(
            answers([0, 1, 1, 1, 2, 2, 3, 7, 3, 5, 3, 7, 1, 5, 1, 11, 1, 7, 2, 5, 1000, 11, 3]),
            [2, 0, 0, 2, 0, 0, 1, 1, 1, 1, 5, 1, 0, 2, 5, 3, 5, 0, 3, 3, 1, 2, 5, 1, 2, 0, 0, 0],
        )

    def test_n_of_1_sets_off_at_once(self):
        self.assertEqual(run(*FIVE, gather(2, 0, 1), person(2))[2:], [off(2), [1, 1, 0, 0, 0]])

    def test_n_of_2(self):
        self.assertEqual(run(*FIVE, gather(2, 0, 2), gather(1, 0, 2), person(1), person(2))[2:],
                         [[1], off(2, 1), [1, 0, 0, 0, 0], [1, 1, 0, 0, 0]])

    def test_the_need_is_the_first_ones(self):
        self.assertEqual(run(*FIVE, gather(5, 0, 4), gather(4, 0, 2), person(4), gather(3, 0, 1), gather(1, 0, 9))[2:],
                         [[1], [1], [1, 3, 2, 0, 4], [1], off(5, 4, 3, 1)])

    def test_the_need_stays_when_one_is_recalled(self):
        self.assertEqual(
            run(*FIVE, gather(5, 0, 3), gather(4, 0, 3), recall(5), gather(3, 0, 2), gather(5, 0, 2))[4:],
            [[0, 0], [1], off(4, 3, 5)],
        )
        self.assertEqual(run(*FIVE, gather(5, 0, 3), recall(5), gather(3, 0, 2), gather(5, 0, 3))[4:],
                         [[1], off(3, 5)])

    def test_a_new_group_has_a_new_need(self):
        self.assertEqual(run(*FIVE, gather(1, 0, 2), gather(2, 0, 2), gather(3, 0, 3), gather(4, 0, 2),
                             gather(5, 0, 2))[4:], [[1], [1], off(3, 4, 5)])

    def test_other_places_kinds_and_families_do_not_meet(self):
        before = FIVE + [gather(1, 7, 2), born(6), split(6, 7)]
        self.assertEqual(self.last(*before, gather(2, 8, 2)), [1])
        self.assertEqual(self.last(*before, assemble(2, 7, 2)), [1])
        self.assertEqual(self.last(*before, gather(6, 7, 2)), [1])
        self.assertEqual(self.last(*before, gather(6, 7, 2), gather(7, 7, 2)), off(6, 7))
        self.assertEqual(self.last(*before, gather(6, 7, 2), gather(2, 7, 2)), off(1, 2))
        self.assertEqual(self.last(*before, found(2), gather(2, 7, 2)), [1])
        for other in (assemble(2, 7, 5), match(2, 7, 7), muster(2, 7)):
            self.assertEqual(self.last(*FIVE, other, gather(1, 7, 2)), [1])

    def test_refusals(self):
        self.check_refused(FIVE, gather(6, 0, 1), -10)
        self.check_refused(FIVE + [gather(1, 0, 2)], gather(1, 0, 2), -7, [gather(2, 0, 2)])
        self.check_refused(FIVE + [gather(1, 0, 2)], gather(6, 0, 2), -10, [gather(2, 0, 2)])

    def test_the_refusal_told_first(self):
        for call in (gather(6, 0, 0), gather(6, 1000, 1), gather(1, -1, 2), gather(1, 0, 1001)):
            self.check_refused(FIVE + [gather(1, 0, 3)], call, -1)

    def test_edges_of_the_ranges(self):
        self.assertEqual(self.last(born(TOP_ID), gather(TOP_ID, 0, 1)), off(TOP_ID))
        self.assertEqual(self.last(born(TOP_ID), gather(TOP_ID, 999, 1000)), [1])
        for x in OUT_OF_IDS:
            self.check_refused(FIVE, gather(x, 0, 2), -1)
        for p in OUT_OF_PLACES:
            self.check_refused(FIVE, gather(1, p, 2), -1)
        for n in OUT_OF_COUNTS:
            self.check_refused(FIVE, gather(1, 0, n), -1)


class Match(Calls):
    def test_whole_list(self):
        self.assertEqual(
            answers([0, 1, 1, 1, 1, 2, 8, 2, 5, 6, 11, 2, 8, 1, 6, 5, 11, 2]),
            [2, 0, 0, 2, 0, 0, 1, 1, 5, 1, 1, 3, 5, 6, 4, 0, 2, 2, 1, 5, 1, 1, 0, 0, 0],
        )

    def test_both_must_fit(self):
        before = FIVE + [match(1, 5, 6)]
        for call in (match(2, 5, 6), match(2, 6, 6), match(2, 5, 5), match(2, 6, 4), match(2, 4, 5)):
            self.assertEqual(self.last(*before, call), [1])
        self.assertEqual(self.last(*before, match(2, 6, 5)), off(1, 2))

    def test_p_and_q_the_same(self):
        self.assertEqual(run(*FIVE, match(2, 4, 4), person(2), match(1, 4, 4), match(2, 4, 4))[2:],
                         [[1], [1, 1, 3, 4, 4], off(2, 1), [1]])
        self.assertEqual(run(*FIVE, match(2, 0, 0), match(1, 0, 0))[2:], [[1], off(2, 1)])

    def test_the_first_of_several(self):
        before = FIVE + [match(5, 1, 3), match(4, 1, 2), match(2, 1, 2), match(3, 1, 2)]
        self.assertEqual(run(*before, match(1, 2, 1), match(4, 2, 1), match(1, 2, 1), match(2, 3, 1))[6:],
                         [off(4, 1), off(2, 4), off(3, 1), off(5, 2)])

    def test_the_first_is_by_coming_not_by_id_or_serial(self):
        before = FIVE + [match(2, 1, 2), match(3, 1, 2), recall(2), match(2, 1, 2)]
        self.assertEqual(run(*before, match(1, 2, 1), match(4, 2, 1))[6:], [off(3, 1), off(2, 4)])

    def test_other_kinds_and_families_do_not_meet(self):
        before = FIVE + [match(1, 7, 8), born(6), split(6, 7)]
        self.assertEqual(self.last(*before, match(6, 8, 7)), [1])
        self.assertEqual(self.last(*before, match(6, 8, 7), match(7, 7, 8)), off(6, 7))
        self.assertEqual(self.last(*before, match(6, 7, 8), match(2, 8, 7)), off(1, 2))
        self.assertEqual(self.last(*before, found(2), match(2, 8, 7)), [1])
        for other in (assemble(2, 7, 8), gather(2, 7, 7), muster(2, 0)):
            self.assertEqual(self.last(*FIVE, other, match(1, 7, 7)), [1])
            self.assertEqual(self.last(*FIVE, other, match(1, 0, 0)), [1])

    def test_refusals(self):
        self.check_refused(FIVE, match(6, 0, 1), -10)
        self.check_refused(FIVE + [match(1, 0, 0)], match(1, 0, 0), -7, [match(2, 0, 0)])
        self.check_refused(FIVE + [match(1, 0, 0)], match(6, 0, 0), -10, [match(2, 0, 0)])

    def test_the_refusal_told_first(self):
        for call in (match(6, 0, -1), match(6, 1000, 1), match(1, -1, 2), match(1, 0, 1000)):
            self.check_refused(FIVE + [match(1, 0, 3)], call, -1)

    def test_edges_of_the_ranges(self):
        self.assertEqual(run(born(TOP_ID), split(TOP_ID, 1), match(TOP_ID, 0, 999), match(1, 999, 0))[2:],
                         [[1], off(TOP_ID, 1)])
        for x in OUT_OF_IDS:
            self.check_refused(FIVE, match(x, 0, 2), -1)
        for p in OUT_OF_PLACES:
            self.check_refused(FIVE, match(1, p, 2), -1)
            self.check_refused(FIVE, match(1, 2, p), -1)


class Recall(Calls):
    def test_whole_list(self):
        self.assertEqual(answers([0, 1, 9, 1, 5, 8, 1, 5, 5, 10, 1, 11, 1]),
                         [2, 0, 0, 3, 0, 1, 1, 1, 1, 2, 0, 0, 5, 1, 0, 0, 0, 0])

    def test_from_each_kind(self):
        for wait in (assemble(2, 0, 3), gather(2, 0, 3), match(2, 0, 3), muster(2, 0)):
            self.assertEqual(run(*FIVE, wait, recall(2), person(2), recall(2))[2:],
                             [[1], [0, 0], [1, 1, 0, 0, 0], [-8]])

    def test_an_assembly_is_forgotten_with_its_first(self):
        self.assertEqual(
            run(*FIVE, assemble(1, 0, 4), assemble(2, 0, 4), recall(1), assemble(3, 0, 2), person(3),
                assemble(1, 0, 2))[4:],
            [[0, 0], [1], [1, 2, 1, 0, 1], [2, 1, 3]],
        )

    def test_others_wait_as_before(self):
        before = FIVE + [match(2, 1, 2), match(3, 1, 2), match(4, 1, 2), recall(3)]
        self.assertEqual(run(*before, person(2), person(4), match(1, 2, 1), match(5, 2, 1))[6:],
                         [[1, 1, 3, 1, 2], [1, 3, 3, 1, 2], off(2, 1), off(4, 5)])

    def test_the_recalled_comes_last_when_it_waits_again(self):
        self.assertEqual(self.last(*FIVE, gather(1, 0, 3), gather(2, 0, 3), recall(1), gather(1, 0, 3),
                                   gather(5, 0, 3)), off(2, 1, 5))

    def test_the_recalled_may_do_all_again(self):
        self.assertEqual(run(*FIVE, muster(2, 0), recall(2), split(2, 6), found(2), close(2), adopt(2, 1),
                             leave(2))[4:], [[0, 0], [0, 0], [0, 0], [-4], [0, 0]])

    def test_refusals(self):
        self.check_refused(FIVE, recall(6), -10)
        self.check_refused(FIVE, recall(1), -8)
        self.check_refused(FIVE + [muster(2, 0)], recall(1), -8)
        self.check_refused(FIVE + [muster(2, 0), recall(2)], recall(2), -8)
        self.check((born(1), NOBODY_OFF), (leave(1), NOBODY_OFF), (recall(1), [-10]))

    def test_edges_of_the_range(self):
        self.assertEqual(self.last(born(TOP_ID), assemble(TOP_ID, 0, 2), recall(TOP_ID)), [0, 0])
        self.assertEqual(self.last(born(2), recall(1)), [-10])
        for x in OUT_OF_IDS:
            self.check_refused(FIVE + [assemble(1, 0, 2)], recall(x), -1)


if __name__ == "__main__":
    unittest.main()
