"""Answers a list of calls on one set of families, which is new before the first of them."""

from kinfolds.changes import adopt, born, close_family, found_within, leave, split_off
from kinfolds.forms import all_in_range, count_of_lists, count_of_numbers
from kinfolds.kept import Kept
from kinfolds.meetings import assemble, gather, match_pair, muster, recall
from kinfolds.questions import tell_family, tell_person
from kinfolds.refusals import OUT_OF_RANGE


class Reader:
    """Reads the handed-in numbers from the front on, and leaves them as they are."""

    def __init__(self, numbers):
        self.numbers = numbers
        self.spot = 0

    def is_at_end(self):
        return self.spot >= len(self.numbers)

    def take_one(self):
        number = self.numbers[self.spot]
        self.spot = self.spot + 1
        return number

    def take_row(self, length):
        row = self.numbers[self.spot:self.spot + length]
        self.spot = self.spot + length
        return row

    def take_lists(self, how_many):
        lists = []
        for turn in range(how_many):
            lists.append(self.take_row(self.take_one()))
        return lists


def answers(calls):
    kept = Kept()
    reader = Reader(calls)
    told = []
    while not reader.is_at_end():
        answer = answer_next(kept, reader)
        told.append(len(answer))
        told.extend(answer)
    return told


def answer_next(kept, reader):
    place = reader.take_one()
    numbers = reader.take_row(count_of_numbers(place))
    lists = reader.take_lists(count_of_lists(place))
    if not all_in_range(place, numbers):
        return [OUT_OF_RANGE]
    if place <= 5:
        return change(kept, place, numbers, lists)
    if place <= 10:
        return meet(kept, place, numbers)
    return ask(kept, place, numbers)


def change(kept, place, numbers, lists):
    x = numbers[0]
    if place == 0:
        return born(kept, x)
    if place == 1:
        return split_off(kept, x, lists[0])
    if place == 2:
        return found_within(kept, x)
    if place == 3:
        return close_family(kept, x)
    if place == 4:
        return adopt(kept, x, numbers[1])
    return leave(kept, x)


def meet(kept, place, numbers):
    x = numbers[0]
    if place == 6:
        return assemble(kept, x, numbers[1], numbers[2])
    if place == 7:
        return gather(kept, x, numbers[1], numbers[2])
    if place == 8:
        return match_pair(kept, x, numbers[1], numbers[2])
    if place == 9:
        return muster(kept, x, numbers[1])
    return recall(kept, x)


def ask(kept, place, numbers):
    if place == 11:
        return tell_person(kept, numbers[0])
    return tell_family(kept, numbers[0])
