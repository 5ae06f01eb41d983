"""Answers a list of calls on one set of families, which is new before the first of them."""

from kinfolds.changes import adopt, born, close_family, found_within, leave, split_off
from kinfolds.forms import all_in_range, count_of_lists, count_of_numbers
from kinfolds.kept import Kept
from kinfolds.loading import clear_all, load
from kinfolds.meetings import assemble, gather, match_pair, muster, recall
from kinfolds.overviews import tell_all, tell_at, tell_counts, tell_roots, tell_waiting
from kinfolds.questions import tell_alike, tell_family, tell_kin, tell_line, tell_members, tell_path, tell_person
from kinfolds.reading import Reader
from kinfolds.refusals import OUT_OF_RANGE


def answers(calls):
    kept = Kept()
    reader = Reader(calls)
    told = []
    while not reader.is_at_end():
        answer = answer_next(kept, reader)
        told.append(len(answer))
        told.extend(answer)
    return told


def answer_next(kept, reader):
    place = reader.take_one()
    numbers = reader.take_row(count_of_numbers(place))
    lists = reader.take_lists(count_of_lists(place))
    if not all_in_range(place, numbers):
        return [OUT_OF_RANGE]
    if place <= 5:
        return change(kept, place, numbers, lists)
    if place <= 10:
        return meet(kept, place, numbers)
    if place <= 17:
        return ask(kept, place, numbers)
    if place == 22:
        return load(kept, numbers[0], lists[0], lists[1])
    if place == 23:
        return clear_all(kept)
    return ask_of_all(kept, place, numbers)


def change(kept, place, numbers, lists):
    x = numbers[0]
    if place == 0:
        return born(kept, x)
    if place == 1:
        return split_off(kept, x, lists[0])
    if place == 2:
        return found_within(kept, x)
    if place == 3:
        return close_family(kept, x)
    if place == 4:
        return adopt(kept, x, numbers[1])
    return leave(kept, x)


def meet(kept, place, numbers):
    x = numbers[0]
    if place == 6:
        return assemble(kept, x, numbers[1], numbers[2])
    if place == 7:
        return gather(kept, x, numbers[1], numbers[2])
    if place == 8:
        return match_pair(kept, x, numbers[1], numbers[2])
    if place == 9:
        return muster(kept, x, numbers[1])
    return recall(kept, x)


def ask(kept, place, numbers):
    if place == 11:
        return tell_person(kept, numbers[0])
    if place == 12:
        return tell_family(kept, numbers[0])
    if place == 13:
        return tell_members(kept, numbers[0])
    if place == 14:
        return tell_path(kept, numbers[0])
    if place == 15:
        return tell_kin(kept, numbers[0], numbers[1])
    if place == 16:
        return tell_line(kept, numbers[0])
    return tell_alike(kept, numbers[0], numbers[1])


def ask_of_all(kept, place, numbers):
    if place == 18:
        return tell_waiting(kept)
    if place == 19:
        return tell_at(kept, numbers[0])
    if place == 20:
        return tell_roots(kept)
    if place == 21:
        return tell_all(kept)
    return tell_counts(kept)
