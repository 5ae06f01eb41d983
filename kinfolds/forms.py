"""The forms of the calls: which numbers and how many lists stand behind a place, and the numbers' ranges."""

FIRST_ROWS = {
    0: ("person",),
    1: ("person",),
    2: ("person",),
    3: ("person",),
    4: ("person", "family"),
    5: ("person",),
    6: ("person", "place", "count"),
    7: ("person", "place", "count"),
    8: ("person", "place", "place"),
    9: ("person", "place"),
    10: ("person",),
    11: ("person",),
    12: ("family",),
    13: ("family",),
    14: ("person",),
    15: ("person", "person"),
    16: ("family",),
    17: ("family", "family"),
    18: (),
    19: ("place",),
    20: (),
    21: (),
    22: ("family",),
    23: (),
    24: (),
}

LISTS = {1: 1, 22: 2}

LOWEST = {"person": 1, "family": 1, "place": 0, "count": 1}

HIGHEST = {"person": 1000000000, "family": 1000000000000000000, "place": 999, "count": 1000}


def count_of_numbers(place):
    return len(FIRST_ROWS[place])


def count_of_lists(place):
    return LISTS.get(place, 0)


def in_range(word, number):
    return LOWEST[word] <= number <= HIGHEST[word]


def all_in_range(place, numbers):
    for word, number in zip(FIRST_ROWS[place], numbers):
        if not in_range(word, number):
            return False
    return True
