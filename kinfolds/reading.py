"""Reads lists of whole numbers from the front on."""


class BadForm(Exception):
    """A list isn't of the form that's told."""


def demand(holds):
    if not holds:
        raise BadForm("a list isn't of the form that's told")


class Reader:
    """Reads the numbers from the front on, and leaves them as they are."""

    def __init__(self, numbers):
        self.numbers = numbers
        self.spot = 0

    def is_at_end(self):
        return self.spot >= len(self.numbers)

    def take_one(self):
        return self.take_row(1)[0]

    def take_row(self, length):
        demand(length <= len(self.numbers) - self.spot)
        row = self.numbers[self.spot:self.spot + length]
        self.spot = self.spot + length
        return row

    def take_lists(self, how_many):
        lists = []
        for turn in range(how_many):
            lists.append(self.take_row(self.take_one()))
        return lists
