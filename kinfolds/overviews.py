"""The questions about all that's kept, which change nothing: waiting, at, roots, told, counts."""

from kinfolds.kept import FAMILY


def tell_waiting(kept):
    return [len(kept.waits)] + row_of_waits(kept)


def row_of_waits(kept):
    row = []
    for x, wait in kept.waits.items():
        row.extend([x, wait.kind, wait.place, wait.number])
    return row


def tell_at(kept, place):
    there = [x for x in kept.waits if kept.waits[x].place == place]
    answer = [len(there)]
    for x in there:
        answer.extend([x, kept.waits[x].kind, kept.waits[x].number])
    return answer


def tell_roots(kept):
    numbers = root_numbers(kept)
    return [len(numbers)] + numbers


def root_numbers(kept):
    return [number for number in sorted(kept.families) if kept.families[number].parent == 0]


def tell_all(kept):
    forest = []
    for number in root_numbers(kept):
        forest.extend(row_of_family(kept, number))
    waits = row_of_waits(kept)
    return [kept.next_number, len(forest)] + forest + [len(waits)] + waits


def row_of_family(kept, number):
    row = [number] + sizes_of_family(kept, number)
    to_tell = kept.children_of(number)[::-1]
    while len(to_tell) > 0:
        child = to_tell.pop()
        row.extend(child)
        if child[1] == FAMILY:
            row.extend(sizes_of_family(kept, child[2]))
            # The first child is to come next, so it's put on last.
            to_tell.extend(kept.children_of(child[2])[::-1])
    return row


def sizes_of_family(kept, number):
    family = kept.families[number]
    return [family.next_serial, len(family.children)]


def tell_counts(kept):
    deepest = max([kept.depth(number) for number in kept.families], default=0)
    return [len(kept.people), len(kept.families), kept.next_number, len(kept.waits), deepest]
